"""Rows turned at a root and back, and the worth of a row at a rest."""

from spinsum.errors import NoRoot
from spinsum.fields import ask_rest, ask_rest_above_nought
from spinsum.rows import ask_rests, ask_some, worth


def ask_turn(field, root, row):
    # Where two refusals are due, NoRest goes ahead of NoRow, and NoRow ahead of NoRoot.
    ask_rest_above_nought(field.prime, root)
    ask_rests(field.prime, row)
    ask_some(row)
    order = field.order(root)
    size = len(row)
    if order != size:
        raise NoRoot(f"the order of {root} is {order}, but the row's length is {size}")


def worths_at_powers(field, root, row):
    return [worth(field.prime, row, field.power(root, place)) for place in range(len(row))]


def turned(field, root, row):
    ask_turn(field, root, row)
    return worths_at_powers(field, root, row)


def turned_back(field, root, row):
    ask_turn(field, root, row)
    # Turned at the root and then at its inverse, a row comes back as many times over as it has
    # numbers. How many that is goes into the prime less one, so it is a rest above 0.
    share = field.inverse(len(row))
    manifold = worths_at_powers(field, field.inverse(root), row)
    return [field.times(number, share) for number in manifold]


def worth_at(field, row, one):
    # NoRest goes ahead of NoRow.
    ask_rests(field.prime, row)
    ask_rest(field.prime, one)
    ask_some(row)
    return worth(field.prime, row, one)
