"""Pieces: how a stretch of things in a row is seen, and how what is seen from gap to gap stands in the row."""

from bothhands.checks import check_span
from bothhands.orders import order_of, runs_of


def seen_pieces(levels, start, end):
    check_span(start, end, len(levels))
    return runs_of([thing >= start and thing < end for thing in order_of(levels)])


def told_pieces(levels, left, right):
    check_span(left, right, len(levels))
    seen = order_of(levels)[left:right]
    return runs_of([thing in seen for thing in range(len(levels))])
