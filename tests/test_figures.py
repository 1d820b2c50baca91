"""Points 1, 7 and 8, as far as they reach spinsum.figures."""

import inspect
import itertools
import unittest

from spinsum.errors import NoRest, NoRow, SpinError
from spinsum.figures import long_product

LARGEST = 10 ** 60 - 1
NO_FIGURES = (-1, -2, -9, -10, -10 ** 59, -LARGEST, 10, 11, 19, 20, 99, 100, 10 ** 59, LARGEST, 10 ** 61)


def number_of(row):
    return sum(figure * 10 ** place for place, figure in enumerate(row))


def figures_of(number, size):
    told = [number // 10 ** place % 10 for place in range(size)]
    assert number_of(told) == number
    return told


def made_row(size, seed):
    """A figure row that looks like chance and is the same at every run."""
    told, state = [], 7919 * seed + size
    for _ in range(size):
        state = (1103515245 * state + 12345) % 2 ** 31
        told.append((state >> 12) % 10)
    return told


def rows_to_try(size):
    rows = [made_row(size, 1), made_row(size, 2), [0] * size, [9] * size, [1] * size, [5] * size]
    rows += [[0] * (size - 1) + [1], [1] + [0] * (size - 1), [0] * (size - 1) + [9], [9] + [0] * (size - 1)]
    rows.append(made_row(size - size // 3, 3) + [0] * (size // 3))
    return rows


class LongProducts(unittest.TestCase):
    def check(self, one, other):
        with self.subTest(one=one, other=other):
            told = long_product(one, other)
            size = len(one) + len(other)
            self.assertIs(type(told), list)
            self.assertEqual({type(figure) for figure in told}, {int})
            self.assertEqual(len(told), size)
            self.assertEqual(told, figures_of(number_of(one) * number_of(other), size))

    def test_of_one_figure(self):
        for one, other in itertools.product(range(10), repeat=2):
            self.check([one], [other])

    def test_of_two_figures_by_one_and_by_two(self):
        for number in range(100):
            for other in range(0, 100, 7):
                self.check(figures_of(number, 2), figures_of(other, 2))
            for other in range(10):
                self.check(figures_of(number, 2), [other])
                self.check([other], figures_of(number, 2))

    def test_of_unlike_lengths(self):
        for size, other_size in itertools.product((1, 2, 3, 5, 17), repeat=2):
            for one, other in itertools.product(rows_to_try(size), rows_to_try(other_size)):
                self.check(one, other)

    def test_of_64_figures(self):
        for size, other_size in ((64, 64), (64, 1), (1, 64), (64, 63), (2, 64), (31, 64)):
            for one, other in itertools.product(rows_to_try(size), rows_to_try(other_size)):
                self.check(one, other)

    def test_of_nines_alone(self):
        for size in range(1, 65):
            self.check([9] * size, [9] * size)
            self.check([9] * size, [9] * 64)
            self.check([9], [9] * size)

    def test_of_noughts_alone(self):
        for size, other_size in itertools.product((1, 2, 63, 64), repeat=2):
            self.assertEqual(long_product([0] * size, [0] * other_size), [0] * (size + other_size))
            self.assertEqual(long_product([0] * size, [9] * other_size), [0] * (size + other_size))
            self.assertEqual(long_product([9] * size, [0] * other_size), [0] * (size + other_size))

    def test_noughts_at_the_end_turn_nothing_but_the_length(self):
        one, other = [7, 8, 9], [5, 6]
        bare = long_product(one, other)
        for noughts in range(1, 60):
            with self.subTest(noughts=noughts):
                self.assertEqual(long_product(one + [0] * noughts, other), bare + [0] * noughts)
                self.assertEqual(long_product(one, other + [0] * noughts), bare + [0] * noughts)

    def test_rows_somewhat_beyond_64_are_not_refused(self):
        for size, other_size in ((65, 65), (100, 1), (1, 70), (80, 64)):
            for one, other in itertools.product(rows_to_try(size), rows_to_try(other_size)):
                self.check(one, other)

    def test_written_answers(self):
        self.assertEqual(long_product([0], [0]), [0, 0])
        self.assertEqual(long_product([1], [1]), [1, 0])
        self.assertEqual(long_product([9], [9]), [1, 8])
        self.assertEqual(long_product([9, 9], [9]), [1, 9, 8])
        self.assertEqual(long_product([9, 9], [9, 9]), [1, 0, 8, 9])
        self.assertEqual(long_product([2, 1], [4, 3, 0]), [8, 0, 4, 0, 0])
        self.assertEqual(long_product([0, 0, 1], [0, 1]), [0, 0, 0, 1, 0])


class Refusals(unittest.TestCase):
    def check(self, refusal, one, other):
        with self.subTest(one=one, other=other):
            with self.assertRaises(SpinError) as taken:
                long_product(one, other)
            self.assertIs(type(taken.exception), refusal)

    def rows_with_a_wrong_figure(self, row):
        for wrong in NO_FIGURES:
            for place in sorted({0, len(row) // 2, len(row) - 1}):
                yield row[:place] + [wrong] + row[place + 1:]

    def test_a_figure_that_is_none(self):
        for size in (1, 2, 3, 9, 64):
            for wrong_row in self.rows_with_a_wrong_figure(made_row(size, 4)):
                for row in ([0], [1], [9, 9], [0] * 64, made_row(64, 5)):
                    self.check(NoRest, wrong_row, row)
                    self.check(NoRest, row, wrong_row)
                self.check(NoRest, wrong_row, wrong_row)

    def test_no_figures(self):
        self.check(NoRow, [], [])
        for row in ([0], [9], [1, 2, 3], [0] * 64, [9] * 64):
            self.check(NoRow, [], row)
            self.check(NoRow, row, [])

    def test_no_rest_goes_ahead_of_no_row(self):
        for size in (1, 3, 64):
            for wrong_row in self.rows_with_a_wrong_figure(made_row(size, 6)):
                self.check(NoRest, [], wrong_row)
                self.check(NoRest, wrong_row, [])


class TheAskersOwn(unittest.TestCase):
    CASES = (([1], [1]), ([0], [0]), ([9, 9], [9]), ([1], [4, 5, 6]), ([9] * 64, [9] * 64))

    def test_rows_stand_unchanged(self):
        for one, other in self.CASES:
            handed = (list(one), list(other))
            with self.subTest(one=one, other=other):
                long_product(handed[0], handed[1])
                self.assertEqual(handed, (one, other))

    def test_rows_stand_unchanged_after_a_refusal(self):
        for one, other in (([1, 10], [1]), ([1], [2, -1, 3]), ([], [1, 2]), ([1, 2], []), ([], []), ([], [10])):
            before = (list(one), list(other))
            with self.subTest(one=one, other=other):
                self.assertRaises(SpinError, long_product, one, other)
                self.assertEqual((one, other), before)

    def test_one_row_handed_in_twice(self):
        for row in ([0], [9], [9, 9], [1, 2, 3], [9] * 64):
            handed = list(row)
            with self.subTest(row=row):
                wanted = figures_of(number_of(row) ** 2, 2 * len(row))
                self.assertEqual(long_product(handed, handed), wanted)
                self.assertEqual(handed, row)

    def test_what_is_told_is_never_what_was_handed_in(self):
        for one, other in self.CASES:
            told = long_product(one, other)
            self.assertIsNot(told, one)
            self.assertIsNot(told, other)

    def test_a_changed_list_turns_nothing_later(self):
        for one, other in self.CASES:
            with self.subTest(one=one, other=other):
                first = long_product(one, other)
                whole = list(first)
                first[0] = -1
                first.append(-2)
                self.assertEqual(long_product(one, other), whole)
                first.clear()
                second = long_product(one, other)
                self.assertEqual(second, whole)
                self.assertIsNot(first, second)

    def test_rows_that_are_changed_later_are_not_kept(self):
        one, other = [2, 1], [3]
        told = long_product(one, other)
        one[0] = 5
        other.append(1)
        self.assertEqual(told, [6, 3, 0])
        self.assertEqual(long_product(one, other), [5, 9, 1, 0])


class Interface(unittest.TestCase):
    def test_arguments_bear_their_names(self):
        self.assertEqual(list(inspect.signature(long_product).parameters), ["one", "other"])

    def test_arguments_are_taken_by_name(self):
        self.assertEqual(long_product(one=[9, 9], other=[9]), [1, 9, 8])


if __name__ == "__main__":
    unittest.main()
