"""The order in which things with levels are seen, from left to right."""


def runs_of(truths):
    runs = []
    for k, truth in enumerate(truths):
        if truth and len(runs) > 0 and runs[-1][1] == k:
            runs[-1] = (runs[-1][0], k + 1)
        elif truth:
            runs.append((k, k + 1))
    return runs


def turned_about(things, runs):
    turned = []
    done = 0
    for start, end in runs:
        turned.extend(things[done:start])
        turned.extend(list(reversed(things[start:end])))
        done = end
    return turned + things[done:]


def order_of(levels):
    order = list(range(len(levels)))
    for k in range(max(levels, default=0), 0, -1):
        order = turned_about(order, runs_of([levels[thing] >= k for thing in order]))
    return order
