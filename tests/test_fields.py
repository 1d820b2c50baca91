"""Points 1, 2, 3 and 8, as far as they reach spinsum.fields."""

import inspect
import unittest

from spinsum.errors import NoPrime, NoRest, SpinError
from spinsum.fields import Field, roots

PRIMES = [n for n in range(2, 998) if all(n % part for part in range(2, n))]
SOME_PRIMES = (2, 3, 5, 7, 13, 31, 97, 641, 991, 997)
LARGEST = 10 ** 60 - 1
LONG_NUMBERS = (10 ** 59, 10 ** 59 + 1, 123456789 ** 7 % 10 ** 60, 2 ** 196 + 7, LARGEST - 1, LARGEST)
NO_RESTS_BELOW = (-1, -2, -996, -997, -998, -10 ** 20, -LARGEST, -10 ** 61)


def no_rests(prime):
    above = (prime, prime + 1, 2 * prime, 2 * prime + 1, prime ** 2, 998 * prime, prime * 10 ** 56, LARGEST, 10 ** 61)
    return NO_RESTS_BELOW + (-prime, 1 - prime) + above


def rests_to_try(prime):
    """All rests of a small field; of a large one the edges and a spread."""
    if prime < 40:
        return list(range(prime))
    return sorted(set([0, 1, 2, prime // 2, prime - 2, prime - 1]) | set(range(0, prime, 23)))


def powers_of(one, prime):
    """The powers by 1, 2, .. up to the first that is 1."""
    told = [one]
    while told[-1] != 1:
        told.append(told[-1] * one % prime)
    return told


class MakingFields(unittest.TestCase):
    def test_the_list_of_primes_is_whole(self):
        self.assertEqual((len(PRIMES), PRIMES[0], PRIMES[-1]), (168, 2, 997))

    def test_each_prime_is_taken_and_told(self):
        for prime in PRIMES:
            with self.subTest(prime=prime):
                field = Field(prime)
                self.assertEqual(field.prime, prime)
                self.assertIs(type(field.prime), int)

    def test_every_other_number_nearby_is_refused(self):
        for number in range(-3000, 20000):
            if number not in PRIMES:
                with self.subTest(number=number):
                    self.assertRaises(NoPrime, Field, number)

    def test_primes_above_the_bound_are_refused(self):
        for number in (1009, 1013, 7919, 65537, 10 ** 9 + 7, 2 ** 61 - 1, 2 ** 89 - 1, 2 ** 127 - 1):
            with self.subTest(number=number):
                self.assertRaises(NoPrime, Field, number)

    def test_long_numbers_are_refused(self):
        for number in LONG_NUMBERS + (10 ** 60, 10 ** 70 + 1):
            for signed in (number, -number):
                with self.subTest(number=signed):
                    self.assertRaises(NoPrime, Field, signed)

    def test_fields_are_apart(self):
        small, large = Field(2), Field(997)
        self.assertEqual((small.prime, large.prime), (2, 997))
        self.assertEqual((small.plus(1, 1), large.plus(1, 1)), (0, 2))


class SumsAndProducts(unittest.TestCase):
    def check_pairs(self, prime, told, wanted):
        for one in rests_to_try(prime):
            for other in rests_to_try(prime):
                with self.subTest(prime=prime, one=one, other=other):
                    answer = told(one, other)
                    self.assertEqual(answer, wanted(one, other) % prime)
                    self.assertIs(type(answer), int)

    def test_sums(self):
        for prime in SOME_PRIMES:
            self.check_pairs(prime, Field(prime).plus, lambda one, other: one + other)

    def test_products(self):
        for prime in SOME_PRIMES:
            self.check_pairs(prime, Field(prime).times, lambda one, other: one * other)

    def test_written_answers(self):
        field = Field(997)
        self.assertEqual(field.plus(996, 1), 0)
        self.assertEqual(field.plus(996, 996), 995)
        self.assertEqual(field.times(996, 996), 1)
        self.assertEqual(field.times(500, 2), 3)
        two = Field(2)
        self.assertEqual([two.plus(0, 0), two.plus(0, 1), two.plus(1, 0), two.plus(1, 1)], [0, 1, 1, 0])
        self.assertEqual([two.times(0, 0), two.times(0, 1), two.times(1, 0), two.times(1, 1)], [0, 0, 0, 1])


class Powers(unittest.TestCase):
    def test_by_nought_is_one_for_every_rest(self):
        for prime in PRIMES:
            field = Field(prime)
            self.assertEqual([field.power(one, 0) for one in range(prime)], [1] * prime)

    def test_the_rest_times_itself_so_often(self):
        for prime in SOME_PRIMES:
            field = Field(prime)
            for one in rests_to_try(prime):
                wanted = 1
                for often in range(40):
                    with self.subTest(prime=prime, one=one, often=often):
                        self.assertEqual(field.power(one, often), wanted)
                    wanted = wanted * one % prime

    def test_by_numbers_about_the_prime(self):
        for prime in PRIMES:
            field = Field(prime)
            for one in (0, 1, prime // 2, prime - 1):
                for often in (prime - 2, prime - 1, prime, prime + 1, prime * prime):
                    with self.subTest(prime=prime, one=one, often=often):
                        self.assertEqual(field.power(one, often), pow(one, often, prime))

    def test_by_long_numbers(self):
        for prime in SOME_PRIMES:
            field = Field(prime)
            for one in rests_to_try(prime):
                for often in LONG_NUMBERS + (10 ** 60, 10 ** 70 + 1):
                    with self.subTest(prime=prime, one=one, often=often):
                        answer = field.power(one, often)
                        self.assertEqual(answer, pow(one, often, prime))
                        self.assertIs(type(answer), int)


class Inverses(unittest.TestCase):
    def test_makes_one_with_its_rest(self):
        for prime in PRIMES:
            field = Field(prime)
            for one in range(1, prime):
                told = field.inverse(one)
                self.assertTrue(0 < told < prime, (prime, one, told))
                self.assertEqual(one * told % prime, 1, (prime, one, told))

    def test_written_answers(self):
        self.assertEqual(Field(2).inverse(1), 1)
        self.assertEqual([Field(7).inverse(one) for one in range(1, 7)], [1, 4, 5, 2, 3, 6])
        self.assertEqual(Field(997).inverse(2), 499)


class Orders(unittest.TestCase):
    def test_least_number_by_which_the_power_is_one(self):
        for prime in PRIMES:
            field = Field(prime)
            for one in range(1, prime):
                self.assertEqual(field.order(one), len(powers_of(one, prime)), (prime, one))

    def test_written_answers(self):
        self.assertEqual(Field(2).order(1), 1)
        self.assertEqual([Field(7).order(one) for one in range(1, 7)], [1, 3, 6, 3, 6, 2])
        self.assertEqual([Field(997).order(one) for one in (1, 7, 996)], [1, 996, 2])


class Roots(unittest.TestCase):
    def test_just_the_rests_of_that_order_rising(self):
        for prime in PRIMES:
            field = Field(prime)
            by_order = {}
            for one in range(1, prime):
                by_order.setdefault(len(powers_of(one, prime)), []).append(one)
            for size in range(-5, 2 * prime + 1):
                self.assertEqual(roots(field, size), by_order.get(size, []), (prime, size))

    def test_none_just_where_the_size_does_not_go_in(self):
        for prime in PRIMES:
            field = Field(prime)
            for size in range(-prime, prime + 3):
                goes_in = size >= 1 and (prime - 1) % size == 0
                self.assertEqual(roots(field, size) != [], goes_in, (prime, size))

    def test_none_of_long_sizes(self):
        for prime in SOME_PRIMES:
            sizes = LONG_NUMBERS + ((prime - 1) * 10 ** 50, (prime - 1) ** 20 + prime, 10 ** 70)
            for size in sizes:
                for signed in (size, -size):
                    with self.subTest(prime=prime, size=signed):
                        self.assertEqual(roots(Field(prime), signed), [])

    def test_written_answers(self):
        self.assertEqual(roots(Field(2), 1), [1])
        self.assertEqual(roots(Field(2), 2), [])
        self.assertEqual(roots(Field(2), 0), [])
        self.assertEqual(roots(Field(2), -1), [])
        self.assertEqual(roots(Field(7), 6), [3, 5])
        self.assertEqual(roots(Field(7), 4), [])
        self.assertEqual(roots(Field(17), 8), [2, 8, 9, 15])
        self.assertEqual(roots(Field(997), 2), [996])
        self.assertEqual(len(roots(Field(997), 996)), 328)

    def test_kinds(self):
        told = roots(Field(997), 83)
        self.assertIs(type(told), list)
        self.assertEqual({type(one) for one in told}, {int})
        self.assertIs(type(roots(Field(997), 5)), list)


class Refusals(unittest.TestCase):
    def check_no_rest(self, asked, *handed):
        with self.subTest(asked=asked, handed=handed):
            with self.assertRaises(SpinError) as taken:
                asked(*handed)
            self.assertIs(type(taken.exception), NoRest)

    def test_sums_and_products(self):
        for prime in SOME_PRIMES:
            field = Field(prime)
            for asked in (field.plus, field.times):
                for wrong in no_rests(prime):
                    for right in (0, 1, prime - 1):
                        self.check_no_rest(asked, wrong, right)
                        self.check_no_rest(asked, right, wrong)
                    self.check_no_rest(asked, wrong, wrong)

    def test_powers_of_no_rest(self):
        for prime in SOME_PRIMES:
            for wrong in no_rests(prime):
                for often in (0, 1, 2, prime - 1, LARGEST, -1):
                    self.check_no_rest(Field(prime).power, wrong, often)

    def test_powers_by_numbers_below_nought(self):
        for prime in SOME_PRIMES:
            for one in (0, 1, prime - 1):
                for often in NO_RESTS_BELOW:
                    self.check_no_rest(Field(prime).power, one, often)

    def test_a_powers_number_need_be_no_rest_else(self):
        self.assertEqual(Field(2).power(1, 2), 1)
        self.assertEqual(Field(5).power(2, 5), 2)

    def test_inverses_and_orders(self):
        for prime in SOME_PRIMES:
            field = Field(prime)
            for wrong in no_rests(prime) + (0,):
                self.check_no_rest(field.inverse, wrong)
                self.check_no_rest(field.order, wrong)

    def test_no_prime_is_told_as_such(self):
        for number in (-7, 0, 1, 4, 999, 1009, LARGEST):
            with self.subTest(number=number):
                with self.assertRaises(SpinError) as taken:
                    Field(number)
                self.assertIs(type(taken.exception), NoPrime)

    def test_a_refusal_leaves_the_field_as_it_was(self):
        field = Field(7)
        self.check_no_rest(field.plus, 7, 0)
        self.check_no_rest(field.inverse, 0)
        self.assertEqual((field.prime, field.plus(6, 1), field.inverse(3)), (7, 0, 5))


class TheAskersOwn(unittest.TestCase):
    def test_a_changed_list_turns_nothing_later(self):
        for prime, size in ((7, 6), (7, 4), (2, 1), (2, 0), (997, 996), (997, LARGEST)):
            with self.subTest(prime=prime, size=size):
                field = Field(prime)
                first = roots(field, size)
                whole = list(first)
                first.append(-1)
                first.reverse()
                self.assertEqual(roots(field, size), whole)
                first.clear()
                self.assertEqual(roots(field, size), whole)
                self.assertEqual(roots(Field(prime), size), whole)

    def test_two_calls_tell_two_lists(self):
        for size in (6, 4, 0, -1):
            with self.subTest(size=size):
                field = Field(7)
                first, second, third = roots(field, size), roots(field, size), roots(Field(7), size)
                self.assertIsNot(first, second)
                self.assertIsNot(first, third)
                self.assertIsNot(second, third)

    def test_empty_lists_of_unlike_fields_are_two(self):
        self.assertIsNot(roots(Field(7), 4), roots(Field(5), 3))

    def test_asking_does_not_change_the_field(self):
        field = Field(13)
        before = dict(vars(field))
        roots(field, 12)
        roots(field, 5)
        field.order(2)
        field.inverse(2)
        field.power(2, LARGEST)
        self.assertEqual(field.prime, 13)
        self.assertEqual(vars(field), before)


class Interface(unittest.TestCase):
    def test_arguments_bear_their_names(self):
        wanted = (
            (Field, ["prime"]),
            (Field.plus, ["self", "one", "other"]),
            (Field.times, ["self", "one", "other"]),
            (Field.power, ["self", "one", "often"]),
            (Field.inverse, ["self", "one"]),
            (Field.order, ["self", "one"]),
            (roots, ["field", "size"]),
        )
        for asked, names in wanted:
            with self.subTest(asked=asked):
                self.assertEqual(list(inspect.signature(asked).parameters), names)

    def test_arguments_are_taken_by_name(self):
        field = Field(prime=11)
        self.assertEqual(field.plus(one=10, other=3), 2)
        self.assertEqual(field.times(one=10, other=3), 8)
        self.assertEqual(field.power(one=2, often=5), 10)
        self.assertEqual(field.inverse(one=3), 4)
        self.assertEqual(field.order(one=3), 5)
        self.assertEqual(roots(field=field, size=5), [3, 4, 5, 9])


if __name__ == "__main__":
    unittest.main()
