"""What turns, products and figures share: the asks that rows must meet, and sums over rows."""

from spinsum.errors import NoRow
from spinsum.fields import ask_rest


def ask_rests(prime, row):
    for number in row:
        ask_rest(prime, number)


def ask_some(row):
    if len(row) == 0:
        raise NoRow("a row of no numbers")


def worth(prime, row, one):
    # From the last place down, so that no power of the rest is reckoned by itself.
    told = 0
    for number in reversed(row):
        told = (told * one + number) % prime
    return told


def sum_at(one, other, place):
    # Beyond these bounds one of the two rows has no number.
    first = max(0, place - len(other) + 1)
    last = min(place, len(one) - 1)
    return sum([one[spot] * other[place - spot] for spot in range(first, last + 1)])
