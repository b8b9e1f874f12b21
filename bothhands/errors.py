"""The refusals: one class for each, all under HandsError."""


class HandsError(ValueError):
    pass


class NoBook(HandsError):
    pass


class NoStep(HandsError):
    pass


class NoWidth(HandsError):
    pass


class NoPlace(HandsError):
    pass


class NoWhat(HandsError):
    pass
