"""Points 1, 5, 6 and 8, as far as they reach spinsum.products."""

import inspect
import itertools
import unittest

from spinsum.errors import NoRest, NoRow, SpinError
from spinsum.fields import Field
from spinsum.products import plain_product, ring_product, row_through

PRIMES = (2, 3, 5, 7, 13, 31, 97, 257, 641, 991, 997)
LARGEST = 10 ** 60 - 1
PRODUCTS = (ring_product, plain_product)


def no_rests(prime):
    below = (-1, -2, 1 - prime, -prime, -10 ** 59, -LARGEST)
    return below + (prime, prime + 1, 2 * prime, prime ** 2, prime * 10 ** 56, 10 ** 59, LARGEST, 10 ** 61)


def made_row(prime, size, seed):
    """A row that looks like chance and is the same at every run."""
    told, state = [], 7919 * seed + size
    for _ in range(size):
        state = (1103515245 * state + 12345) % 2 ** 31
        told.append((state >> 12) % prime)
    return told


def rows_to_try(prime, size):
    rows = [made_row(prime, size, seed) for seed in (1, 2)]
    rows += [[0] * size, [1] * size, [prime - 1] * size]
    rows += [[0] * place + [1] + [0] * (size - place - 1) for place in sorted({0, size // 2, size - 1})]
    return rows


def ring_here(prime, one, other):
    told = [0] * len(one)
    for i in range(len(one)):
        for j in range(len(other)):
            told[(i + j) % len(one)] += one[i] * other[j]
    return [number % prime for number in told]


def plain_here(prime, one, other):
    told = [0] * (len(one) + len(other) - 1)
    for i in range(len(one)):
        for j in range(len(other)):
            told[i + j] += one[i] * other[j]
    return [number % prime for number in told]


def worth_here(prime, row, one):
    return sum(number * one ** place for place, number in enumerate(row)) % prime


def places_to_try(rows):
    return sorted({0, len(rows) // 2, len(rows) - 1})


class RingProducts(unittest.TestCase):
    def test_place_by_place(self):
        for prime in PRIMES:
            field = Field(prime)
            for size in (1, 2, 3, 4, 5, 8, 11, 31):
                for one, other in itertools.product(rows_to_try(prime, size), repeat=2):
                    with self.subTest(prime=prime, one=one, other=other):
                        self.assertEqual(ring_product(field, one, other), ring_here(prime, one, other))

    def test_of_64_numbers(self):
        for prime in PRIMES:
            for one in rows_to_try(prime, 64):
                other = made_row(prime, 64, 3)
                with self.subTest(prime=prime, one=one):
                    self.assertEqual(ring_product(Field(prime), one, other), ring_here(prime, one, other))
                    self.assertEqual(ring_product(Field(prime), other, one), ring_here(prime, one, other))

    def test_of_one_number(self):
        for prime in (2, 3, 7, 13):
            for one in range(prime):
                for other in range(prime):
                    with self.subTest(prime=prime, one=one, other=other):
                        self.assertEqual(ring_product(Field(prime), [one], [other]), [one * other % prime])

    def test_of_every_length_whether_or_not_it_goes_into_the_prime_less_one(self):
        for prime in (2, 7, 997):
            for size in range(1, 65):
                one, other = made_row(prime, size, 4), made_row(prime, size, 5)
                with self.subTest(prime=prime, size=size):
                    self.assertEqual(ring_product(Field(prime), one, other), ring_here(prime, one, other))

    def test_all_rows_of_a_small_field(self):
        rows = [list(row) for row in itertools.product(range(3), repeat=3)]
        for one, other in itertools.product(rows, repeat=2):
            with self.subTest(one=one, other=other):
                self.assertEqual(ring_product(Field(3), one, other), ring_here(3, one, other))

    def test_rows_somewhat_beyond_64_are_not_refused(self):
        for size in (65, 70, 100):
            one, other = made_row(13, size, 6), made_row(13, size, 7)
            with self.subTest(size=size):
                self.assertEqual(ring_product(Field(13), one, other), ring_here(13, one, other))

    def test_written_answers(self):
        self.assertEqual(ring_product(Field(7), [1, 2, 3], [4, 5, 6]), [3, 3, 0])
        self.assertEqual(ring_product(Field(7), [0, 1, 0], [4, 5, 6]), [6, 4, 5])
        self.assertEqual(ring_product(Field(2), [1, 1], [1, 1]), [0, 0])
        self.assertEqual(ring_product(Field(997), [996], [996]), [1])


class PlainProducts(unittest.TestCase):
    def test_place_by_place(self):
        for prime in PRIMES:
            field = Field(prime)
            for size, other_size in itertools.product((1, 2, 3, 7), repeat=2):
                for one in rows_to_try(prime, size):
                    for other in rows_to_try(prime, other_size):
                        with self.subTest(prime=prime, one=one, other=other):
                            told = plain_product(field, one, other)
                            self.assertEqual(told, plain_here(prime, one, other))
                            self.assertEqual(len(told), size + other_size - 1)

    def test_of_up_to_64_numbers(self):
        for prime in PRIMES:
            for size, other_size in ((64, 64), (64, 1), (1, 64), (64, 63), (2, 64), (33, 64)):
                for one in rows_to_try(prime, size):
                    other = made_row(prime, other_size, 8)
                    with self.subTest(prime=prime, one=one, other_size=other_size):
                        told = plain_product(Field(prime), one, other)
                        self.assertEqual(told, plain_here(prime, one, other))
                        self.assertEqual(len(told), size + other_size - 1)

    def test_of_one_number(self):
        for prime in (2, 3, 7, 13):
            for one in range(prime):
                for other in range(prime):
                    with self.subTest(prime=prime, one=one, other=other):
                        self.assertEqual(plain_product(Field(prime), [one], [other]), [one * other % prime])

    def test_noughts_stay(self):
        self.assertEqual(plain_product(Field(5), [0, 0], [0, 0, 0]), [0, 0, 0, 0])
        self.assertEqual(plain_product(Field(5), [1, 0, 0], [2, 0]), [2, 0, 0, 0])
        self.assertEqual(plain_product(Field(5), [0, 1], [0, 0, 2]), [0, 0, 0, 2])

    def test_rows_somewhat_beyond_64_are_not_refused(self):
        for size, other_size in ((65, 65), (1, 70), (100, 64)):
            one, other = made_row(13, size, 9), made_row(13, other_size, 10)
            with self.subTest(size=size, other_size=other_size):
                self.assertEqual(plain_product(Field(13), one, other), plain_here(13, one, other))

    def test_written_answers(self):
        self.assertEqual(plain_product(Field(7), [1, 2, 3], [4, 5, 6]), [4, 6, 0, 6, 4])
        self.assertEqual(plain_product(Field(7), [3], [4, 5, 6]), [5, 1, 4])
        self.assertEqual(plain_product(Field(2), [1, 1], [1, 1]), [1, 0, 1])
        self.assertEqual(plain_product(Field(997), [996, 1], [996, 996, 0]), [1, 0, 996, 0])


class RowsThroughPoints(unittest.TestCase):
    def check(self, prime, points):
        with self.subTest(prime=prime, points=points):
            told = row_through(Field(prime), points)
            self.assertIs(type(told), list)
            self.assertEqual(len(told), len(points))
            self.assertEqual({type(number) for number in told}, {int})
            self.assertTrue(all(0 <= number < prime for number in told), told)
            for first, second in points:
                self.assertEqual(worth_here(prime, told, first), second)
            return told

    def points_made(self, prime, size, seed):
        """Points whose first rests are strewn over the field, from some rest on."""
        step = 1 if prime < 5 else prime // 2 - 1
        firsts = [(seed + step * place) % prime for place in range(size)]
        self.assertEqual(len(set(firsts)), size)
        return list(zip(firsts, made_row(prime, size, seed)))

    def test_through_one_point(self):
        for prime in (2, 3, 7, 13):
            for first, second in itertools.product(range(prime), repeat=2):
                self.assertEqual(self.check(prime, [(first, second)]), [second])
        self.assertEqual(self.check(997, [(996, 995)]), [995])

    def test_through_several(self):
        for prime in PRIMES:
            for size in range(1, min(prime, 12) + 1):
                for seed in (1, 2, 3):
                    self.check(prime, self.points_made(prime, size, seed))

    def test_through_31_and_32(self):
        for prime in (37, 41, 97, 257, 641, 991, 997):
            for size in (31, 32):
                for seed in (0, 1, 2):
                    self.check(prime, self.points_made(prime, size, seed))
                self.check(prime, [(first, 0) for first in range(size)])
                self.check(prime, [(first, prime - 1) for first in range(prime - size, prime)])

    def test_through_as_many_as_there_are_rests(self):
        for prime in (2, 3, 5, 7, 11, 13, 17, 19, 23, 29, 31):
            for seed in (1, 2, 3):
                self.check(prime, self.points_made(prime, prime, seed))
                self.check(prime, list(zip(range(prime), made_row(prime, prime, seed))))

    def test_every_worth_at_all_rests_of_a_small_field(self):
        for prime in (2, 3, 5):
            rows = set()
            for seconds in itertools.product(range(prime), repeat=prime):
                rows.add(tuple(self.check(prime, list(zip(range(prime), seconds)))))
            self.assertEqual(len(rows), prime ** prime)

    def test_the_row_that_gave_the_worths(self):
        for prime in (13, 97, 997):
            for size in (1, 2, 5, 13, 32):
                if size <= prime:
                    for row in rows_to_try(prime, size):
                        firsts = [first for first, second in self.points_made(prime, size, 4)]
                        points = [(first, worth_here(prime, row, first)) for first in firsts]
                        self.assertEqual(self.check(prime, points), row)

    def test_noughts_at_the_end_stay(self):
        self.assertEqual(row_through(Field(7), [(0, 0), (1, 0), (2, 0)]), [0, 0, 0])
        self.assertEqual(row_through(Field(7), [(3, 5), (1, 5), (6, 5)]), [5, 0, 0])
        self.assertEqual(row_through(Field(7), [(0, 1), (1, 2), (2, 3), (3, 4)]), [1, 1, 0, 0])

    def test_points_in_another_order(self):
        for prime, size in ((5, 5), (13, 4), (997, 32)):
            points = self.points_made(prime, size, 5)
            told = self.check(prime, points)
            others = (points[::-1], sorted(points), points[1:] + points[:1], points[::2] + points[1::2])
            for other in others:
                self.assertEqual(self.check(prime, other), told)
        points = [(0, 3), (2, 1), (5, 6), (6, 6)]
        for other in itertools.permutations(points):
            self.assertEqual(self.check(7, list(other)), row_through(Field(7), points))

    def test_written_answers(self):
        self.assertEqual(row_through(Field(7), [(0, 1), (1, 6), (2, 3)]), [1, 2, 3])
        self.assertEqual(row_through(Field(2), [(0, 1), (1, 0)]), [1, 1])
        self.assertEqual(row_through(Field(2), [(1, 1)]), [1])
        self.assertEqual(row_through(Field(997), [(996, 0), (1, 2)]), [1, 1])


class Refusals(unittest.TestCase):
    def check(self, refusal, asked, *handed):
        with self.subTest(asked=asked.__name__, prime=handed[0].prime, handed=handed[1:]):
            with self.assertRaises(SpinError) as taken:
                asked(*handed)
            self.assertIs(type(taken.exception), refusal)

    def rows_with_a_wrong_number(self, prime, row):
        for wrong in no_rests(prime):
            for place in places_to_try(row):
                yield row[:place] + [wrong] + row[place + 1:]

    def test_products_of_a_number_that_is_no_rest(self):
        for prime in (2, 3, 7, 257, 997):
            field = Field(prime)
            for size in (1, 2, 5, 64):
                row = made_row(prime, size, 11)
                for wrong_row in self.rows_with_a_wrong_number(prime, row):
                    for asked in PRODUCTS:
                        self.check(NoRest, asked, field, wrong_row, row)
                        self.check(NoRest, asked, field, row, wrong_row)
                        self.check(NoRest, asked, field, [0] * size, wrong_row)
                        self.check(NoRest, asked, field, wrong_row, [0] * size)
                        self.check(NoRest, asked, field, wrong_row, wrong_row)

    def test_plain_products_of_unlike_lengths_and_a_number_that_is_no_rest(self):
        for prime in (2, 7, 997):
            for wrong_row in self.rows_with_a_wrong_number(prime, made_row(prime, 4, 12)):
                for row in ([0], [1, 0], [0] * 64):
                    self.check(NoRest, plain_product, Field(prime), wrong_row, row)
                    self.check(NoRest, plain_product, Field(prime), row, wrong_row)

    def test_products_of_no_numbers(self):
        for prime in (2, 7, 997):
            for asked in PRODUCTS:
                self.check(NoRow, asked, Field(prime), [], [])
                for size in (1, 2, 64):
                    self.check(NoRow, asked, Field(prime), [], [1] * size)
                    self.check(NoRow, asked, Field(prime), [0] * size, [])

    def test_ring_products_of_unlike_lengths(self):
        for prime in (2, 7, 997):
            for size, other_size in itertools.product((1, 2, 3, 4, 63, 64), repeat=2):
                if size != other_size:
                    one, other = made_row(prime, size, 13), made_row(prime, other_size, 14)
                    self.check(NoRow, ring_product, Field(prime), one, other)
                    self.check(NoRow, ring_product, Field(prime), [0] * size, [0] * other_size)

    def test_in_products_no_rest_goes_ahead_of_no_row(self):
        for prime in (2, 7, 997):
            field = Field(prime)
            for wrong_row in self.rows_with_a_wrong_number(prime, made_row(prime, 3, 15)):
                for asked in PRODUCTS:
                    self.check(NoRest, asked, field, [], wrong_row)
                    self.check(NoRest, asked, field, wrong_row, [])
                for row in ([0], [1, 0], [0] * 4, [1] * 64):
                    self.check(NoRest, ring_product, field, row, wrong_row)
                    self.check(NoRest, ring_product, field, wrong_row, row)

    def points_with_a_wrong_number(self, prime, points):
        for wrong in no_rests(prime):
            for place in places_to_try(points):
                first, second = points[place]
                for point in ((wrong, second), (first, wrong), (wrong, wrong)):
                    yield points[:place] + [point] + points[place + 1:]

    def test_points_of_a_number_that_is_no_rest(self):
        for prime, size in ((2, 1), (2, 2), (3, 3), (7, 1), (7, 5), (37, 32), (997, 3), (997, 32)):
            points = list(zip(range(size), made_row(prime, size, 16)))
            for wrong_points in self.points_with_a_wrong_number(prime, points):
                self.check(NoRest, row_through, Field(prime), wrong_points)

    def test_no_points(self):
        for prime in (2, 7, 997):
            self.check(NoRow, row_through, Field(prime), [])

    def test_more_than_32_points(self):
        for prime in (37, 67, 97, 997):
            for size in (33, 34, 63, 64, 70):
                if size <= prime:
                    points = list(zip(range(size), made_row(prime, size, 17)))
                    self.check(NoRow, row_through, Field(prime), points)
                    self.check(NoRow, row_through, Field(prime), points[::-1])

    def test_points_with_the_same_first_rest(self):
        for prime, size in ((2, 2), (3, 3), (7, 2), (7, 5), (37, 32), (997, 31)):
            points = list(zip(range(size), made_row(prime, size, 18)))
            for place, other in itertools.combinations(places_to_try(points), 2):
                for second in {0, points[place][1], points[other][1], prime - 1}:
                    doubled = list(points)
                    doubled[other] = (points[place][0], second)
                    self.check(NoRow, row_through, Field(prime), doubled)

    def test_a_point_told_twice(self):
        self.check(NoRow, row_through, Field(7), [(3, 4), (3, 4)])
        self.check(NoRow, row_through, Field(7), [(0, 0), (0, 0)])
        self.check(NoRow, row_through, Field(7), [(3, 4), (1, 1), (3, 4)])
        self.check(NoRow, row_through, Field(2), [(0, 1), (1, 1), (0, 1)])

    def test_more_than_32_points_in_a_field_of_fewer_rests(self):
        for prime in (2, 31):
            self.check(NoRow, row_through, Field(prime), [(place % prime, 1) for place in range(33)])

    def test_in_points_no_rest_goes_ahead_of_no_row(self):
        for prime in (2, 3, 37, 997):
            field = Field(prime)
            for wrong in no_rests(prime):
                self.check(NoRest, row_through, field, [(0, 1), (0, 1), (wrong, 1)])
                self.check(NoRest, row_through, field, [(0, 1), (0, 1), (1, wrong)])
                self.check(NoRest, row_through, field, [(0, wrong), (0, 1)])
                self.check(NoRest, row_through, field, [(0, 1), (0, wrong)])
                self.check(NoRest, row_through, field, [(wrong, 1), (wrong, 1)])
            for size in (33, 64):
                points = [(place % prime, 1) for place in range(size)]
                for wrong_points in self.points_with_a_wrong_number(prime, points):
                    self.check(NoRest, row_through, field, wrong_points)

    def test_second_rests_may_be_the_same(self):
        self.assertEqual(row_through(Field(7), [(3, 4), (4, 4)]), [4, 0])


class TheAskersOwn(unittest.TestCase):
    ROWS = ((2, [1], [1]), (7, [1], [5]), (7, [1, 0, 0], [4, 5, 6]), (997, [996, 2], [3, 0]))
    POINTS = ((2, [(1, 1)]), (7, [(3, 4)]), (7, [(3, 4), (0, 6), (6, 0)]), (997, [(place, 1) for place in range(32)]))

    def test_rows_stand_unchanged(self):
        for prime, one, other in self.ROWS:
            one, other = list(one), list(other)
            before = (list(one), list(other))
            for asked in PRODUCTS:
                with self.subTest(asked=asked.__name__, prime=prime, one=one, other=other):
                    asked(Field(prime), one, other)
                    self.assertEqual((one, other), before)

    def test_points_stand_unchanged(self):
        for prime, points in self.POINTS:
            handed = list(points)
            with self.subTest(prime=prime, points=points):
                row_through(Field(prime), handed)
                self.assertEqual(handed, points)

    def test_rows_stand_unchanged_after_a_refusal(self):
        for one, other in (([1, 7], [1, 2]), ([1, 2], [-1, 2]), ([], [1]), ([1], []), ([], [])):
            before = (list(one), list(other))
            for asked in PRODUCTS:
                with self.subTest(asked=asked.__name__, one=one, other=other):
                    self.assertRaises(SpinError, asked, Field(7), one, other)
                    self.assertEqual((one, other), before)
        one, other = [1, 2, 3], [4, 5]
        self.assertRaises(NoRow, ring_product, Field(7), one, other)
        self.assertEqual((one, other), ([1, 2, 3], [4, 5]))

    def test_points_stand_unchanged_after_a_refusal(self):
        wrong = ([], [(3, 4), (3, 5)], [(5, 1), (7, 4)], [(5, 1), (4, 7), (0, 0)], [(place % 7, 2) for place in range(33)])
        for points in wrong:
            before = list(points)
            with self.subTest(points=points):
                self.assertRaises(SpinError, row_through, Field(7), points)
                self.assertEqual(points, before)

    def test_one_row_handed_in_twice(self):
        for prime, one, other in self.ROWS:
            row = list(other)
            with self.subTest(prime=prime, row=row):
                self.assertEqual(ring_product(Field(prime), row, row), ring_here(prime, other, other))
                self.assertEqual(plain_product(Field(prime), row, row), plain_here(prime, other, other))
                self.assertEqual(row, other)

    def test_what_is_told_is_never_what_was_handed_in(self):
        for prime, one, other in self.ROWS:
            for asked in PRODUCTS:
                with self.subTest(asked=asked.__name__, prime=prime, one=one, other=other):
                    told = asked(Field(prime), one, other)
                    self.assertIsNot(told, one)
                    self.assertIsNot(told, other)
        for prime in (2, 7):
            for asked in PRODUCTS:
                row = [1]
                for told in (asked(Field(prime), row, [1]), asked(Field(prime), [1], row)):
                    self.assertEqual(told, row)
                    self.assertIsNot(told, row)
        long_row = [1, 2, 3]
        for told in (plain_product(Field(7), long_row, [1]), plain_product(Field(7), [1], long_row)):
            self.assertEqual(told, long_row)
            self.assertIsNot(told, long_row)

    def test_what_is_told_of_points_is_not_the_list_of_points(self):
        for prime, points in self.POINTS:
            self.assertIsNot(row_through(Field(prime), points), points)

    def check_whole_again(self, asked, *handed):
        with self.subTest(asked=asked.__name__, handed=handed[1:]):
            first = asked(*handed)
            whole = list(first)
            first[0] = -1
            first.append(-2)
            self.assertEqual(asked(*handed), whole)
            first.clear()
            second = asked(*handed)
            self.assertEqual(second, whole)
            self.assertIsNot(first, second)

    def test_a_changed_list_turns_nothing_later(self):
        for prime, one, other in self.ROWS:
            for asked in PRODUCTS:
                self.check_whole_again(asked, Field(prime), list(one), list(other))
        for prime, points in self.POINTS:
            self.check_whole_again(row_through, Field(prime), list(points))

    def test_what_is_changed_later_is_not_kept(self):
        for asked in PRODUCTS:
            field, one, other = Field(7), [1, 2], [3, 4]
            told = asked(field, one, other)
            whole = list(told)
            one[0], other[1] = 5, 6
            self.assertEqual(told, whole)
            self.assertEqual(asked(field, one, other), asked(Field(7), [5, 2], [3, 6]))
        field, points = Field(7), [(0, 1), (1, 6)]
        told = row_through(field, points)
        points[1] = (1, 1)
        self.assertEqual(told, [1, 5])
        self.assertEqual(row_through(field, points), [1, 0])

    def test_asking_does_not_change_the_field(self):
        field = Field(7)
        before = dict(vars(field))
        ring_product(field, [1, 2], [3, 4])
        plain_product(field, [1, 2], [3, 4])
        row_through(field, [(0, 1), (1, 6)])
        self.assertEqual(vars(field), before)


class Interface(unittest.TestCase):
    def test_arguments_bear_their_names(self):
        wanted = (
            (ring_product, ["field", "one", "other"]),
            (plain_product, ["field", "one", "other"]),
            (row_through, ["field", "points"]),
        )
        for asked, names in wanted:
            with self.subTest(asked=asked):
                self.assertEqual(list(inspect.signature(asked).parameters), names)

    def test_arguments_are_taken_by_name(self):
        self.assertEqual(ring_product(field=Field(7), one=[0, 1, 0], other=[4, 5, 6]), [6, 4, 5])
        self.assertEqual(plain_product(field=Field(7), one=[3], other=[4, 5, 6]), [5, 1, 4])
        self.assertEqual(row_through(field=Field(7), points=[(0, 1), (1, 6), (2, 3)]), [1, 2, 3])

    def test_kinds(self):
        for asked in PRODUCTS:
            told = asked(Field(997), made_row(997, 9, 19), made_row(997, 9, 20))
            self.assertIs(type(told), list)
            self.assertEqual({type(number) for number in told}, {int})


if __name__ == "__main__":
    unittest.main()
