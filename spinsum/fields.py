"""Fields by a prime: the rests from 0 to below it, with sums and products taken by it.

The roots of a size are the rests above 0 whose order is that size.
"""

from spinsum.errors import NoPrime, NoRest

GREATEST_PRIME = 997


def is_prime(number):
    if number < 2:
        return False
    part = 2
    while part * part <= number:
        if number % part == 0:
            return False
        part += 1
    return True


def ask_rest(prime, number):
    if number < 0 or number >= prime:
        raise NoRest(f"{number} is no rest by {prime}")


def ask_rest_above_nought(prime, number):
    ask_rest(prime, number)
    if number == 0:
        raise NoRest("0 stands where a rest above 0 is asked")


class Field:
    def __init__(self, prime):
        # The bound goes first: the search for a part would not end on a long number.
        if prime > GREATEST_PRIME or not is_prime(prime):
            raise NoPrime(f"{prime} is no prime from 2 to {GREATEST_PRIME}")
        self.prime = prime

    def plus(self, one, other):
        ask_rest(self.prime, one)
        ask_rest(self.prime, other)
        return (one + other) % self.prime

    def times(self, one, other):
        ask_rest(self.prime, one)
        ask_rest(self.prime, other)
        return one * other % self.prime

    def power(self, one, often):
        ask_rest(self.prime, one)
        if often < 0:
            raise NoRest(f"{often} is below 0 and so no power's number")
        # Squaring keeps the steps to the bits of `often`, which may have 60 figures.
        told = 1
        square = one
        left = often
        while left > 0:
            if left % 2 == 1:
                told = told * square % self.prime
            square = square * square % self.prime
            left = left // 2
        return told

    def inverse(self, one):
        ask_rest_above_nought(self.prime, one)
        # A rest above 0 has 1 as its power by the prime less one; one factor less is its inverse.
        return self.power(one, self.prime - 2)

    def order(self, one):
        ask_rest_above_nought(self.prime, one)
        often = 1
        reached = one
        while reached != 1:
            reached = reached * one % self.prime
            often += 1
        return often


def roots(field, size):
    if size < 1 or (field.prime - 1) % size != 0:
        return []
    # The power is cheap and sorts most rests out, so that few orders are walked.
    near = [one for one in range(1, field.prime) if field.power(one, size) == 1]
    return [one for one in near if field.order(one) == size]
