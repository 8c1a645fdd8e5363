"""Points [1.2] to [1.5]."""

import itertools
import unittest

from rankwords.errors import BadColumns, BadField, BadThing, ZeroThing
from rankwords.fields import Field, check_columns, check_thing, check_things
from tests.support import (Case, EIGHT, FIELDS, FOUR, KINDS, NINE, NO_INTEGERS, NO_SEQUENCES,
                           SIXTEEN, TWENTY_SEVEN, TWO, slow_power)


def digits(prime, many, number):
    return [number // prime ** place % prime for place in range(many)]


def number(prime, row):
    return sum(digit * prime ** place for place, digit in enumerate(row))


def long_product(prime, one, other):
    """The digits of the product of two polynomials."""
    row = [0] * (len(one) + len(other) - 1)
    for i, a in enumerate(one):
        for j, b in enumerate(other):
            row[i + j] = (row[i + j] + a * b) % prime
    return row


def slow_product(prime, modulus, one, other):
    """The product of two things, reduced from the top by the modulus."""
    m = len(modulus) - 1
    row = long_product(prime, digits(prime, m, one), digits(prime, m, other))
    while len(row) > m:
        top = row.pop()
        for place in range(m):
            at = len(row) - m + place
            row[at] = (row[at] - top * modulus[place]) % prime
    return number(prime, row)


def ended_in_one(prime, degree):
    for row in itertools.product(range(prime), repeat=degree):
        yield row + (1,)


def products_of_lesser(prime, degree):
    """All polynomials that end in 1 and are products of two of lesser degree."""
    return {tuple(long_product(prime, one, other))
            for low in range(1, degree)
            for one in ended_in_one(prime, low)
            for other in ended_in_one(prime, degree - low)}


class MakingTest(Case):
    def test_attributes(self):
        for prime, modulus in KINDS:
            field = Field(prime, list(modulus))
            self.assertEqual((field.prime, field.modulus), (prime, modulus))
            self.assertEqual(field.degree, len(modulus) - 1)
            self.assertEqual(field.size, prime ** (len(modulus) - 1))

    def test_every_modulus(self):
        for prime, most in ((2, 4), (3, 3)):
            for degree in range(1, most + 1):
                divided = products_of_lesser(prime, degree)
                for modulus in ended_in_one(prime, degree):
                    if modulus in divided:
                        self.refuses(BadField, {"what": "divisor"}, Field, prime, modulus)
                    else:
                        self.assertEqual(Field(prime, modulus).modulus, modulus)

    def test_degree_1_has_no_divisor(self):
        for prime in (2, 3):
            for first in range(prime):
                self.assertEqual(Field(prime, (first, 1)).size, prime)

    def test_prime(self):
        for prime in NO_INTEGERS + (0, 1, 4, 5, -2, 2.0, 10 ** 40):
            self.refuses(BadField, {"what": "prime"}, Field, prime, (1, 1, 1))

    def test_modulus(self):
        wrong = NO_SEQUENCES + (
            (), (1,), [1], (1, 1, 0, 0, 0, 1), (1, 1, 0), (0, 0), (1, 2, 1), (1, -1, 1),
            (True, 1, 1), (1, 1, True), (1, 1.0, 1), (1, "1", 1), (None, 1), ((1,), 1), (1, [1], 1))
        for modulus in wrong:
            self.refuses(BadField, {"what": "modulus"}, Field, 2, modulus)
        for modulus in ((1, 1, 2), (1, 3, 1), (1, 0, 1, 2)):
            self.refuses(BadField, {"what": "modulus"}, Field, 3, modulus)

    def test_size(self):
        for row in itertools.product(range(3), repeat=4):
            self.refuses(BadField, {"what": "size"}, Field, 3, row + (1,))
        self.assertEqual(Field(2, (1, 0, 0, 1, 1)).size, 16)
        self.assertEqual(Field(3, (1, 2, 0, 1)).size, 27)

    def test_divisor_examples(self):
        for prime, modulus in ((2, (0, 0, 1)), (2, (1, 0, 1)), (2, (1, 0, 1, 0, 1)), (3, (2, 0, 1))):
            self.refuses(BadField, {"what": "divisor"}, Field, prime, modulus)

    def test_order_of_errors(self):
        self.refuses(BadField, {"what": "prime"}, Field, 4, None)
        self.refuses(BadField, {"what": "prime"}, Field, True, (0, 0, 1))
        self.refuses(BadField, {"what": "modulus"}, Field, 3, (0, 0, 0, 0, 2))
        self.refuses(BadField, {"what": "size"}, Field, 3, (0, 0, 0, 0, 1))

    def test_keeps_a_copy(self):
        modulus = [1, 1, 1]
        field = Field(2, modulus)
        modulus[0] = 0
        self.assertEqual(field.modulus, (1, 1, 1))
        self.assertEqual(field, FOUR)
        self.assertEqual(field.times(2, 2), 3)

    def test_equal(self):
        for (one, told), (other, also) in itertools.product(zip(FIELDS, KINDS), repeat=2):
            self.assertEqual(one == other, told == also)
            self.assertEqual(one != other, told != also)
        self.assertEqual(Field(2, [1, 1, 1]), Field(2, (1, 1, 1)))
        for other in (None, 2, (2, (1, 1, 1)), "2: 1 1 1", object()):
            self.assertFalse(FOUR == other)
            self.assertTrue(FOUR != other)


class CalculatingTest(Case):
    def test_example(self):
        self.assertEqual((FOUR.times(2, 2), FOUR.times(2, 3), FOUR.plus(2, 3)), (3, 1, 1))

    def test_sums(self):
        for field in FIELDS:
            q, m = field.prime, field.degree
            for one in range(field.size):
                for other in range(field.size):
                    rows = zip(digits(q, m, one), digits(q, m, other))
                    total = number(q, [(a + b) % q for a, b in rows])
                    self.assertEqual(field.plus(one, other), total)
                    self.assertEqual(field.minus(total, other), one)

    def test_negatives(self):
        for field in FIELDS:
            for thing in range(field.size):
                self.assertEqual(field.plus(thing, field.negative(thing)), 0)
                self.assertEqual(field.negative(thing), field.minus(0, thing))

    def test_products(self):
        for field in FIELDS:
            for one in range(field.size):
                for other in range(field.size):
                    self.assertEqual(field.times(one, other),
                                     slow_product(field.prime, field.modulus, one, other))

    def test_inverses(self):
        for field in FIELDS:
            for one in range(1, field.size):
                fitting = [x for x in range(field.size) if field.times(one, x) == 1]
                self.assertEqual(fitting, [field.inverse(one)])
                for other in range(field.size):
                    self.assertEqual(field.over(other, one), field.times(other, fitting[0]))

    def test_zero_has_no_inverse(self):
        for field in FIELDS:
            self.refuses(ZeroThing, {}, field.inverse, 0)
            for one in range(field.size):
                self.refuses(ZeroThing, {}, field.over, one, 0)

    def test_multiples(self):
        for field in FIELDS:
            for thing in range(field.size):
                copies = 0
                for many in range(7):
                    self.assertEqual(field.multiple(many, thing), copies)
                    copies = field.plus(copies, thing)

    def test_multiples_go_by_the_prime(self):
        for field in FIELDS:
            for many in (-1, -2, -7, 10 ** 29, -10 ** 29, 10 ** 30 - 1):
                for thing in range(field.size):
                    self.assertEqual(field.multiple(many, thing),
                                     field.multiple(many % field.prime, thing))
        self.assertEqual(NINE.multiple(-1, 1), 2)

    def test_digits(self):
        for field in FIELDS:
            for thing in range(field.size):
                row = tuple(digits(field.prime, field.degree, thing))
                self.assertEqual(field.digits_of(thing), row)
                self.assertIs(type(field.digits_of(thing)), tuple)
                self.assertEqual(field.thing_of(row), thing)
                self.assertEqual(field.thing_of(list(row)), thing)
        self.assertEqual(TWENTY_SEVEN.digits_of(5), (2, 1, 0))


class StepsTest(Case):
    def test_a_step_is_a_power(self):
        for field in FIELDS:
            for thing in range(field.size):
                for times in range(2 * field.degree):
                    power = slow_power(field, thing, field.prime ** times)
                    self.assertEqual(field.stepped(thing, times), power)

    def test_counts_below_0_and_of_many_figures(self):
        for field in FIELDS:
            for times in (-1, -2, -5, 10 ** 29 + 1, -10 ** 29 - 1, 10 ** 30 - 1):
                for thing in range(field.size):
                    self.assertEqual(field.stepped(thing, times),
                                     field.stepped(thing, times % field.degree))

    def test_minus_1_undoes_one_step(self):
        for field in FIELDS:
            for thing in range(field.size):
                self.assertEqual(field.stepped(field.stepped(thing, 1), -1), thing)

    def test_sums_and_products(self):
        for field in FIELDS:
            for one in range(field.size):
                for other in range(field.size):
                    first, second = field.stepped(one, 1), field.stepped(other, 1)
                    self.assertEqual(field.stepped(field.plus(one, other), 1),
                                     field.plus(first, second))
                    self.assertEqual(field.stepped(field.times(one, other), 1),
                                     field.times(first, second))

    def test_own_steps(self):
        for field in FIELDS:
            own = [x for x in range(field.size) if field.stepped(x, 1) == x]
            self.assertEqual(own, list(range(field.prime)))


class CheckingTest(Case):
    def test_check_thing(self):
        for field in FIELDS:
            for thing in range(field.size):
                self.assertEqual(check_thing(field, thing), thing)
                self.assertEqual(check_thing(field, thing, 7), thing)

    def test_check_thing_refuses(self):
        for field in FIELDS:
            for thing in NO_INTEGERS + (-1, field.size, 10 ** 59, -10 ** 59):
                self.refuses(BadThing, {"index": 0}, check_thing, field, thing)
                self.refuses(BadThing, {"index": 5}, check_thing, field, thing, 5)
                self.refuses(BadThing, {"index": -1}, check_thing, field, thing, index=-1)

    def test_check_things(self):
        things = [0, 3, 3, 1]
        found = check_things(FOUR, things, 4)
        self.assertEqual(found, (0, 3, 3, 1))
        self.assertEqual(check_things(FOUR, (), 0), ())
        things[0] = 9
        self.assertEqual(found, (0, 3, 3, 1))
        self.assertEqual(check_things(FOUR, [1] * 300, 300), (1,) * 300)

    def test_check_things_refuses(self):
        for things in NO_SEQUENCES:
            self.refuses(BadThing, {"index": -1}, check_things, FOUR, things, 9)
        self.refuses(BadThing, {"index": -1}, check_things, FOUR, (1, 1), 1)
        self.refuses(BadThing, {"index": -1}, check_things, FOUR, (9, 9), 1)
        self.refuses(BadThing, {"index": -1}, check_things, FOUR, [0], 0)
        self.refuses(BadThing, {"index": 1}, check_things, FOUR, (3, 4, -1), 3)
        for thing in NO_INTEGERS:
            self.refuses(BadThing, {"index": 2}, check_things, FOUR, (0, 1, thing, 9), 4)

    def test_check_columns(self):
        for field in FIELDS:
            for columns in range(1, field.degree + 1):
                self.assertEqual(check_columns(field, columns), columns)
            for columns in NO_INTEGERS + (0, -1, field.degree + 1, 10 ** 59):
                self.refuses(BadColumns, {}, check_columns, field, columns)
        self.assertEqual(check_columns(TWO, 1), 1)
        self.assertEqual(check_columns(SIXTEEN, 4), 4)
        self.refuses(BadColumns, {}, check_columns, EIGHT, 4)


if __name__ == "__main__":
    unittest.main()
