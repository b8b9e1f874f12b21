"""Steps, which change a text but never its long form, and the ways that are made of them."""

from bothhands.errors import NoStep
from bothhands.forms import long_form, written_out
from bothhands.wholes import wholes_of


def turned(book, pair):
    first = pair[0]
    second = pair[1]
    if book.kind(first) != "mark" or book.kind(second) != "mark" or book.rank(first) == book.rank(second):
        raise NoStep("only marks of unlike ranks change places")
    return [second, first]


def opened(book, sign):
    pair = book.parts(sign)
    if pair is None:
        raise NoStep("only a whole is opened")
    return list(pair)


def joined_to_one(book, pair):
    whole = book.joined(pair[0], pair[1])
    if whole is None:
        raise NoStep("only the base and mark of a join are joined")
    return [whole]


def put_in_place(book, word, taken):
    if word == "turn":
        return turned(book, taken)
    if word == "open":
        return opened(book, taken[0])
    if word == "join":
        return joined_to_one(book, taken)
    raise NoStep("a step is a turn, an open or a join")


# The words of a refusal don't show the number: it may have more figures than Python shows.
def step_done(book, text, step):
    word = step[0]
    start = step[1]
    end = start + 1 if word == "open" else start + 2
    if start < 0 or end > len(text):
        raise NoStep("the signs of a step stand in the text")
    return text[:start] + put_in_place(book, word, text[start:end]) + text[end:]


# Each mark goes ahead past those of a higher rank, which by then stand right ahead of it.
def turns_to_sorted(book, signs, at):
    ranks = [book.rank(sign) for sign in signs]
    turns = []
    for k, rank in enumerate(ranks):
        passed = len([other for other in ranks[:k] if other > rank])
        turns.extend([("turn", at + k - 1 - going) for going in range(passed)])
    return turns


def whole_to_long(book, whole, at):
    first = written_out(book, whole[0])
    opens = [("open", at) for mark in first[1:]]
    return opens + turns_to_sorted(book, first + whole[1:], at)


def step_back(step):
    if step[0] == "open":
        return ("join", step[1])
    return step


def way_back(way):
    return [step_back(step) for step in reversed(way)]


def whole_to_whole(book, one, other, at):
    if one == other:
        return []
    return whole_to_long(book, one, at) + way_back(whole_to_long(book, other, at))


def way_to(book, one, other):
    if long_form(book, one) != long_form(book, other):
        return None
    way = []
    # What is ahead of a whole sign has been led to the other text already.
    at = 0
    for whole, wanted in zip(wholes_of(book, one), wholes_of(book, other)):
        way.extend(whole_to_whole(book, whole, wanted, at))
        at += len(wanted)
    return way
