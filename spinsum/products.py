"""The ring product and the plain product of two rows, and the row through points."""

from spinsum.errors import NoRow
from spinsum.fields import ask_rest
from spinsum.rows import ask_rests, ask_some, sum_at, worth

MOST_POINTS = 32


def ask_both(prime, one, other):
    # NoRest goes ahead of NoRow, so both rows' numbers are looked at before a length is.
    ask_rests(prime, one)
    ask_rests(prime, other)
    ask_some(one)
    ask_some(other)


def ring_product(field, one, other):
    ask_both(field.prime, one, other)
    size = len(one)
    if len(other) != size:
        raise NoRow("a ring product of two rows of unlike lengths")
    # Two places come to less than twice the length: to the place itself or to one round more.
    return [
        (sum_at(one, other, place) + sum_at(one, other, place + size)) % field.prime
        for place in range(size)
    ]


def plain_product(field, one, other):
    ask_both(field.prime, one, other)
    size = len(one) + len(other) - 1
    return [sum_at(one, other, place) % field.prime for place in range(size)]


def ask_points(prime, points):
    # NoRest goes ahead of NoRow, so all points' rests are looked at first.
    for first, second in points:
        ask_rest(prime, first)
        ask_rest(prime, second)
    count = len(points)
    if count == 0 or count > MOST_POINTS:
        raise NoRow(f"{count} points where 1 to {MOST_POINTS} are asked")
    if len(set([point[0] for point in points])) != count:
        raise NoRow("two points have the same first rest")


def with_gap_closed(field, row, base, point):
    # The base is 0 at every earlier point, so adding a multiple of it leaves those as they are.
    gap = (point[1] - worth(field.prime, row, point[0])) % field.prime
    often = field.times(gap, field.inverse(worth(field.prime, base, point[0])))
    return [(number + often * step) % field.prime for number, step in zip(row + [0], base)]


def row_through(field, points):
    ask_points(field.prime, points)
    row = []
    base = [1]
    for point in points:
        row = with_gap_closed(field, row, base, point)
        base = plain_product(field, base, [-point[0] % field.prime, 1])
    return row
