"""The refusals.

NoPrime: a field asked by a number that is no prime from 2 to 997.
NoRest: a number that is no rest, 0 where a rest above 0 is asked, a figure that isn't one.
NoRow: a row or a list of points whose length or form isn't taken.
NoRoot: a rest above 0 whose order isn't the row's length.
"""


class SpinError(ValueError):
    pass


class NoPrime(SpinError):
    pass


class NoRest(SpinError):
    pass


class NoRow(SpinError):
    pass


class NoRoot(SpinError):
    pass
