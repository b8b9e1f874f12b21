"""Whole signs: a base with all marks behind it, or the marks that a text begins with."""


def wholes_of(book, text):
    wholes = []
    for sign in text:
        # Marks ahead of any base have nothing to follow: they begin one themselves.
        if len(wholes) == 0 or book.kind(sign) != "mark":
            wholes.append([])
        wholes[-1].append(sign)
    return wholes


def signs_of(wholes):
    signs = []
    for whole in wholes:
        signs.extend(whole)
    return signs


def kind_of_whole(book, whole):
    kind = book.kind(whole[0])
    if kind == "mark":
        return "plain"
    return kind


def kinds_of(book, text):
    return [kind_of_whole(book, whole) for whole in wholes_of(book, text)]
