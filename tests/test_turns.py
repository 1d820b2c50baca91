"""Points 1, 4, 6 and 8, as far as they reach spinsum.turns."""

import inspect
import unittest

from spinsum.errors import NoRest, NoRoot, NoRow, SpinError
from spinsum.fields import Field
from spinsum.turns import turned, turned_back, worth_at

# 193, 257, 449 and 641 have roots of 64; 61 and 997 have sizes that are no powers of two.
PRIMES = (2, 3, 5, 7, 13, 17, 31, 61, 97, 193, 257, 449, 641, 991, 997)
LARGEST = 10 ** 60 - 1
TURNS = (turned, turned_back)


def no_rests(prime):
    below = (-1, -2, 1 - prime, -prime, -10 ** 59, -LARGEST)
    return below + (prime, prime + 1, 2 * prime, prime ** 2, prime * 10 ** 56, 10 ** 59, LARGEST, 10 ** 61)


def made_row(prime, size, seed):
    """A row that looks like chance and is the same at every run."""
    told, state = [], 7919 * seed + size
    for _ in range(size):
        state = (1103515245 * state + 12345) % 2 ** 31
        told.append((state >> 12) % prime)
    return told


def rows_to_try(prime, size):
    rows = [made_row(prime, size, seed) for seed in (1, 2)]
    rows += [[0] * size, [1] * size, [prime - 1] * size]
    rows += [[0] * place + [1] + [0] * (size - place - 1) for place in sorted({0, size // 2, size - 1})]
    return rows


def order_of(one, prime):
    often, reached = 1, one
    while reached != 1:
        reached = reached * one % prime
        often += 1
    return often


def roots_by_size(prime):
    """Every root of every size up to 64."""
    told = {}
    for one in range(1, prime):
        size = order_of(one, prime)
        if size <= 64:
            told.setdefault(size, []).append(one)
    return told


def some_of(roots):
    """All of a few; of many the first, the last and two between."""
    if len(roots) < 5:
        return roots
    return [roots[0], roots[1], roots[len(roots) // 2], roots[-1]]


def turned_here(prime, root, row):
    """The sum that point 4 tells, word by word."""
    places = range(len(row))
    return [sum(row[j] * pow(root, j * k, prime) for j in places) % prime for k in places]


class Turning(unittest.TestCase):
    def test_every_size_that_goes_into_the_prime_less_one_is_tried(self):
        for prime in PRIMES:
            wanted = [size for size in range(1, 65) if (prime - 1) % size == 0]
            self.assertEqual(sorted(roots_by_size(prime)), wanted)
        tried = {size for prime in PRIMES for size in roots_by_size(prime)}
        self.assertTrue({1, 2, 3, 60, 64} <= tried)

    def test_the_sum_at_each_place(self):
        for prime in PRIMES:
            field = Field(prime)
            for size, roots in roots_by_size(prime).items():
                for root in some_of(roots):
                    for row in rows_to_try(prime, size):
                        with self.subTest(prime=prime, root=root, row=row):
                            self.assertEqual(turned(field, root, row), turned_here(prime, root, row))

    def test_turned_and_turned_back_is_the_row(self):
        for prime in PRIMES:
            field = Field(prime)
            for size, roots in roots_by_size(prime).items():
                for root in some_of(roots):
                    for row in rows_to_try(prime, size):
                        with self.subTest(prime=prime, root=root, row=row):
                            self.assertEqual(turned_back(field, root, turned(field, root, row)), row)
                            self.assertEqual(turned_back(field, root, turned_here(prime, root, row)), row)

    def test_turned_back_and_turned_is_the_row(self):
        for prime in PRIMES:
            field = Field(prime)
            for size, roots in roots_by_size(prime).items():
                for root in some_of(roots):
                    for row in rows_to_try(prime, size):
                        with self.subTest(prime=prime, root=root, row=row):
                            back = turned_back(field, root, row)
                            self.assertEqual(turned(field, root, back), row)
                            self.assertEqual(turned_here(prime, root, back), row)

    def test_every_root_of_small_fields(self):
        for prime in (2, 3, 5, 7, 11, 13, 17, 19, 23, 29):
            field = Field(prime)
            for root in range(1, prime):
                row = made_row(prime, order_of(root, prime), root)
                with self.subTest(prime=prime, root=root):
                    self.assertEqual(turned(field, root, row), turned_here(prime, root, row))
                    self.assertEqual(turned_here(prime, root, turned_back(field, root, row)), row)

    def test_every_row_of_a_small_field(self):
        field = Field(5)
        rows = [[a, b, c, d] for a in range(5) for b in range(5) for c in range(5) for d in range(5)]
        for root in (2, 3):
            for row in rows:
                with self.subTest(root=root, row=row):
                    self.assertEqual(turned(field, root, row), turned_here(5, root, row))
                    self.assertEqual(turned_here(5, root, turned_back(field, root, row)), row)

    def test_rows_of_one_number(self):
        for prime in PRIMES:
            for one in {0, 1, prime // 2, prime - 1}:
                with self.subTest(prime=prime, one=one):
                    self.assertEqual(turned(Field(prime), 1, [one]), [one])
                    self.assertEqual(turned_back(Field(prime), 1, [one]), [one])

    def test_rows_somewhat_beyond_64_are_not_refused(self):
        for prime, root, size in ((97, 5, 96), (67, 2, 66), (131, 5, 65)):
            row = made_row(prime, size, 3)
            with self.subTest(prime=prime):
                self.assertEqual(turned(Field(prime), root, row), turned_here(prime, root, row))
                self.assertEqual(turned_here(prime, root, turned_back(Field(prime), root, row)), row)

    def test_written_answers(self):
        self.assertEqual(turned(Field(5), 2, [1, 2, 3, 4]), [0, 4, 3, 2])
        self.assertEqual(turned(Field(5), 3, [1, 2, 3, 4]), [0, 2, 3, 4])
        self.assertEqual(turned_back(Field(5), 2, [0, 4, 3, 2]), [1, 2, 3, 4])
        self.assertEqual(turned(Field(7), 2, [1, 0, 0]), [1, 1, 1])
        self.assertEqual(turned(Field(7), 2, [0, 1, 0]), [1, 2, 4])
        self.assertEqual(turned_back(Field(7), 2, [1, 1, 1]), [1, 0, 0])
        self.assertEqual(turned(Field(997), 996, [996, 1]), [0, 995])
        self.assertEqual(turned_back(Field(997), 996, [0, 995]), [996, 1])

    def test_kinds(self):
        for asked in TURNS:
            for prime, root, size in ((2, 1, 1), (257, 2, 16), (997, 996, 2)):
                told = asked(Field(prime), root, made_row(prime, size, 5))
                self.assertIs(type(told), list)
                self.assertEqual({type(one) for one in told}, {int})


class Worths(unittest.TestCase):
    def wanted(self, prime, row, one):
        # Python's own 0 ** 0 is 1, as the document asks.
        return sum(number * one ** place for place, number in enumerate(row)) % prime

    def test_at_each_rest(self):
        for prime in (2, 3, 5, 7, 13, 31, 97):
            field = Field(prime)
            for size in (1, 2, 3, 5, prime, prime + 1, 64):
                for row in rows_to_try(prime, min(size, 64)):
                    for one in range(prime):
                        with self.subTest(prime=prime, row=row, one=one):
                            self.assertEqual(worth_at(field, row, one), self.wanted(prime, row, one))

    def test_in_large_fields(self):
        for prime in (641, 991, 997):
            field = Field(prime)
            for size in (1, 2, 10, 63, 64):
                for row in rows_to_try(prime, size):
                    for one in (0, 1, 2, prime // 2, prime - 2, prime - 1):
                        with self.subTest(prime=prime, row=row, one=one):
                            self.assertEqual(worth_at(field, row, one), self.wanted(prime, row, one))

    def test_at_nought_the_number_at_the_first_place(self):
        for prime in PRIMES:
            for first in {0, 1, prime - 1}:
                for rest_of_row in ([], [1], [0, 1], [prime - 1] * 63):
                    with self.subTest(prime=prime, first=first, rest_of_row=rest_of_row):
                        self.assertEqual(worth_at(Field(prime), [first] + rest_of_row, 0), first)

    def test_rows_somewhat_beyond_64_are_not_refused(self):
        for size in (65, 70, 100):
            row = made_row(31, size, 4)
            for one in (0, 1, 3, 30):
                with self.subTest(size=size, one=one):
                    self.assertEqual(worth_at(Field(31), row, one), self.wanted(31, row, one))

    def test_written_answers(self):
        field = Field(7)
        self.assertEqual([worth_at(field, [1, 2, 3], one) for one in range(7)], [1, 6, 3, 6, 1, 2, 2])
        self.assertEqual([worth_at(Field(2), [1, 1], one) for one in range(2)], [1, 0])
        self.assertEqual(worth_at(Field(997), [0, 0, 1], 996), 1)

    def test_kinds(self):
        for one in (0, 3):
            self.assertIs(type(worth_at(Field(7), [1, 2], one)), int)


class Refusals(unittest.TestCase):
    def check(self, refusal, asked, *handed):
        with self.subTest(asked=asked.__name__, prime=handed[0].prime, handed=handed[1:]):
            with self.assertRaises(SpinError) as taken:
                asked(*handed)
            self.assertIs(type(taken.exception), refusal)

    def fields_and_turns(self):
        """A field, a root in it and a row of its order."""
        told = ((2, 1, 1), (3, 2, 2), (7, 2, 3), (13, 5, 4), (257, 2, 16), (193, 11, 64), (997, 996, 2))
        for prime, root, size in told:
            self.assertEqual(order_of(root, prime), size)
            yield Field(prime), root, made_row(prime, size, 6)

    def rows_with_a_wrong_number(self, prime, row):
        for wrong in no_rests(prime):
            for place in sorted({0, len(row) // 2, len(row) - 1}):
                yield row[:place] + [wrong] + row[place + 1:]

    def test_turns_of_a_number_that_is_no_rest(self):
        for field, root, row in self.fields_and_turns():
            for wrong_row in self.rows_with_a_wrong_number(field.prime, row):
                for asked in TURNS:
                    self.check(NoRest, asked, field, root, wrong_row)

    def test_turns_at_a_root_that_is_no_rest_above_nought(self):
        for field, root, row in self.fields_and_turns():
            for wrong in no_rests(field.prime) + (0,):
                for asked in TURNS:
                    self.check(NoRest, asked, field, wrong, row)
                    self.check(NoRest, asked, field, wrong, [0])

    def test_turns_of_no_numbers(self):
        for field, root, row in self.fields_and_turns():
            for one in {1, root, field.prime - 1}:
                for asked in TURNS:
                    self.check(NoRow, asked, field, one, [])

    def test_turns_at_a_rest_of_another_order(self):
        for prime in (2, 3, 5, 7, 13, 17):
            for root in range(1, prime):
                for size in range(1, prime + 3):
                    if size != order_of(root, prime):
                        for asked in TURNS:
                            self.check(NoRoot, asked, Field(prime), root, made_row(prime, size, 7))

    def test_turns_of_orders_that_go_into_the_length_or_that_it_goes_into(self):
        # A root's power by the length is 1 here and there, yet the order is another.
        for root, size in ((1, 64), (256, 64), (16, 64), (2, 64), (2, 8), (2, 15), (2, 17), (2, 32), (3, 64), (256, 1)):
            for asked in TURNS:
                self.check(NoRoot, asked, Field(257), root, [1] * size)
        for size in (1, 62, 63, 64, 65):
            for asked in TURNS:
                self.check(NoRoot, asked, Field(997), 7, [0] * size)

    def test_worths_of_a_number_that_is_no_rest(self):
        for field, root, row in self.fields_and_turns():
            for wrong_row in self.rows_with_a_wrong_number(field.prime, row):
                for one in (0, root):
                    self.check(NoRest, worth_at, field, wrong_row, one)

    def test_worths_at_a_number_that_is_no_rest(self):
        for field, root, row in self.fields_and_turns():
            for wrong in no_rests(field.prime):
                self.check(NoRest, worth_at, field, row, wrong)
                self.check(NoRest, worth_at, field, [0], wrong)

    def test_worths_of_no_numbers(self):
        for field, root, row in self.fields_and_turns():
            for one in (0, root, field.prime - 1):
                self.check(NoRow, worth_at, field, [], one)

    def test_no_rest_goes_ahead_of_no_row(self):
        for field, root, row in self.fields_and_turns():
            for wrong in no_rests(field.prime):
                self.check(NoRest, worth_at, field, [], wrong)
                self.check(NoRest, worth_at, field, [wrong], wrong)
                for asked in TURNS:
                    self.check(NoRest, asked, field, wrong, [])
            for asked in TURNS:
                self.check(NoRest, asked, field, 0, [])

    def test_no_rest_goes_ahead_of_no_root(self):
        for field, root, row in self.fields_and_turns():
            for wrong_row in self.rows_with_a_wrong_number(field.prime, row + [0]):
                for asked in TURNS:
                    self.check(NoRest, asked, field, root, wrong_row)
            for asked in TURNS:
                self.check(NoRest, asked, field, 0, row + [0])
                self.check(NoRest, asked, field, 0, row + [field.prime])

    def test_no_row_goes_ahead_of_no_root(self):
        for prime in (2, 3, 7, 13):
            for root in range(1, prime):
                for asked in TURNS:
                    self.check(NoRow, asked, Field(prime), root, [])


class TheAskersOwn(unittest.TestCase):
    CASES = ((2, 1, 1), (7, 2, 3), (7, 1, 1), (257, 2, 16), (193, 11, 64))

    def test_rows_stand_unchanged(self):
        for prime, root, size in self.CASES:
            row = made_row(prime, size, 8)
            before = list(row)
            with self.subTest(prime=prime, root=root):
                turned(Field(prime), root, row)
                self.assertEqual(row, before)
                turned_back(Field(prime), root, row)
                self.assertEqual(row, before)
                worth_at(Field(prime), row, root)
                self.assertEqual(row, before)

    def test_rows_stand_unchanged_after_a_refusal(self):
        field = Field(7)
        for root, row in ((2, [1, 2, 7]), (2, [-1, 2, 3]), (0, [1, 2, 3]), (7, [1, 2, 3]), (2, []), (3, [1, 2, 3])):
            before = list(row)
            with self.subTest(root=root, row=row):
                for asked in TURNS:
                    self.assertRaises(SpinError, asked, field, root, row)
                    self.assertEqual(row, before)
        for row, one in (([1, 7], 2), ([1, 2], 7), ([], 2)):
            before = list(row)
            with self.subTest(row=row, one=one):
                self.assertRaises(SpinError, worth_at, field, row, one)
                self.assertEqual(row, before)

    def test_what_is_told_is_never_what_was_handed_in(self):
        for prime, root, size in self.CASES:
            row = made_row(prime, size, 9)
            with self.subTest(prime=prime, root=root):
                self.assertIsNot(turned(Field(prime), root, row), row)
                self.assertIsNot(turned_back(Field(prime), root, row), row)

    def test_a_changed_list_turns_nothing_later(self):
        for prime, root, size in self.CASES:
            field, row = Field(prime), made_row(prime, size, 10)
            for asked in TURNS:
                with self.subTest(asked=asked.__name__, prime=prime, root=root):
                    first = asked(field, root, row)
                    whole = list(first)
                    first[0] = -1
                    first.append(-2)
                    self.assertEqual(asked(field, root, row), whole)
                    first.clear()
                    second = asked(field, root, row)
                    self.assertEqual(second, whole)
                    self.assertIsNot(first, second)

    def test_a_row_that_is_changed_later_is_not_kept(self):
        for asked in TURNS:
            field, row = Field(7), [1, 2, 3]
            told = asked(field, 2, row)
            whole = list(told)
            row[1] = 6
            self.assertEqual(told, whole)
            self.assertEqual(asked(field, 2, row), asked(Field(7), 2, [1, 6, 3]))
            self.assertNotEqual(asked(field, 2, row), whole)
            row.append(0)
            self.assertRaises(NoRoot, asked, field, 2, row)

    def test_asking_does_not_change_the_field(self):
        field = Field(7)
        before = dict(vars(field))
        turned(field, 2, [1, 2, 3])
        turned_back(field, 2, [1, 2, 3])
        worth_at(field, [1, 2, 3], 2)
        self.assertEqual(vars(field), before)


class Interface(unittest.TestCase):
    def test_arguments_bear_their_names(self):
        wanted = (
            (turned, ["field", "root", "row"]),
            (turned_back, ["field", "root", "row"]),
            (worth_at, ["field", "row", "one"]),
        )
        for asked, names in wanted:
            with self.subTest(asked=asked):
                self.assertEqual(list(inspect.signature(asked).parameters), names)

    def test_arguments_are_taken_by_name(self):
        self.assertEqual(turned(field=Field(7), root=2, row=[0, 1, 0]), [1, 2, 4])
        self.assertEqual(turned_back(field=Field(7), root=2, row=[1, 2, 4]), [0, 1, 0])
        self.assertEqual(worth_at(field=Field(7), row=[0, 1, 1], one=2), 6)


if __name__ == "__main__":
    unittest.main()
