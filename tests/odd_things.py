"""Things of all sorts that are handed in where something else should be."""

import sample


class AgreesToAll:
    def __eq__(self, other):
        return True

    def __hash__(self):
        return hash("fore")

    def __ge__(self, other):
        return True

    def __gt__(self, other):
        return True

    def __le__(self, other):
        return True

    def __lt__(self, other):
        return True


class Raises:
    def __eq__(self, other):
        raise RuntimeError("compared")

    def __hash__(self):
        raise RuntimeError("hashed")

    def __repr__(self):
        raise RuntimeError("shown")

    def __ge__(self, other):
        raise RuntimeError("compared")

    def __bool__(self):
        raise RuntimeError("asked")


ODD_THINGS = [
    None, True, False, 1.0, 0.0, float("nan"), float("inf"), 1j, b"fore", bytearray(b"x"), [], [1], (), (1,), (1, 2, 3),
    {}, {1: 1}, {1}, frozenset(), object(), AgreesToAll(), Raises(), int, len, ...,
]
NO_WHOLE_NUMBERS = ODD_THINGS + ["", "1", "fore", "mark"]
NO_SIGNS = NO_WHOLE_NUMBERS + [-1, -sample.GREAT, -(10 ** 5000)]
