"""Figure rows, long numbers with the lowest figure first, and their product."""

from spinsum.errors import NoRest
from spinsum.rows import ask_some, sum_at


def ask_figures(row):
    for figure in row:
        if figure < 0 or figure > 9:
            raise NoRest(f"{figure} is no figure from 0 to 9")


def long_product(one, other):
    # NoRest goes ahead of NoRow, so both rows' figures are looked at before a length is.
    ask_figures(one)
    ask_figures(other)
    ask_some(one)
    ask_some(other)
    told = []
    carried = 0
    for place in range(len(one) + len(other)):
        carried += sum_at(one, other, place)
        told.append(carried % 10)
        carried = carried // 10
    return told
