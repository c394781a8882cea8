"""The refusals of the program."""


class RingError(ValueError):
    pass


class NoParting(RingError):
    pass


class Crossing(RingError):
    def __init__(self, points):
        RingError.__init__(self, f"two blocks cross at the points {points}")
        self.points = points


class NoNumber(RingError):
    pass


class NoNote(RingError):
    pass
