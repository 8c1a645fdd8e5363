"""Points [2.6] and [2.7]."""

import itertools
import unittest

from rankwords.divisions import divided_about
from rankwords.errors import BadPoints, BadThing, BadWord, NotApart
from rankwords.polys import put_into, values_at, zeros_of
from rankwords.spacepolys import check_points, interpolated, poly_of_space
from rankwords.spaces import all_spaces
from tests.support import (Case, EIGHT, FIELDS, FOUR, NINE, NO_INTEGERS, NO_SEQUENCES, SIXTEEN,
                           TWENTY_SEVEN, TWO, all_polys, all_words, random_points, random_poly,
                           random_word, rng, slow_value, spanned_things)


def all_bases(field):
    """The bases of all spaces of things of the field."""
    for dimension in range(field.degree + 1):
        for rows in all_spaces(field.prime, field.degree, dimension):
            yield tuple(field.thing_of(row) for row in rows)


class PolyOfSpaceTest(Case):
    def test_every_space(self):
        for field in FIELDS:
            for basis in all_bases(field):
                poly = poly_of_space(field, basis)
                self.assertEqual(poly[-1], 1)
                self.assertEqual(len(poly), len(basis) + 1)
                zeros = {x for x in range(field.size) if slow_value(field, poly, x) == 0}
                self.assertEqual(zeros, spanned_things(field, basis))

    def test_dependent_things(self):
        chance = rng(1)
        for field in FIELDS:
            for many in (2, 3, 16, 32):
                things = random_word(chance, field, many)
                self.assertEqual(poly_of_space(field, things),
                                 poly_of_space(field, spanning(field, things)))
        self.assertEqual(poly_of_space(NINE, (4, 8, 4, 0)), poly_of_space(NINE, (4,)))

    def test_without_things_and_zeros(self):
        for field in FIELDS:
            for things in ((), [], (0,), [0] * 32):
                self.assertEqual(poly_of_space(field, things), (1,))

    def test_known(self):
        self.assertEqual(poly_of_space(FOUR, (1,)), (1, 1))
        self.assertEqual(poly_of_space(FOUR, (1, 2)), (1, 0, 1))
        self.assertEqual(poly_of_space(TWENTY_SEVEN, (1, 3, 9)), (2, 0, 0, 1))

    def test_zeros_mean_lying_about(self):
        for field, most in ((FOUR, 3), (NINE, 2)):
            for basis in all_bases(field):
                other = poly_of_space(field, basis)
                for poly in all_polys(field, most):
                    zero = not any(values_at(field, poly, basis))
                    self.assertEqual(divided_about(field, poly, other)[1] == (), zero)

    def test_refused_things(self):
        for things in NO_SEQUENCES + ((1,) * 33, [9] * 33):
            self.refuses(BadThing, {"index": -1}, poly_of_space, FOUR, things)
        for thing in NO_INTEGERS + (-1, 4):
            self.refuses(BadThing, {"index": 1}, poly_of_space, FOUR, (3, thing, None))
            self.refuses(BadThing, {"index": 31}, poly_of_space, FOUR, [0] * 31 + [thing])


def spanning(field, things):
    """Some of the things that span all of them."""
    found = []
    for thing in things:
        if thing not in spanned_things(field, found):
            found.append(thing)
    return found


class PointsTest(Case):
    def test_every_word(self):
        for field in (TWO, FOUR, EIGHT, NINE):
            for columns in range(1, field.degree + 1):
                for points in all_words(field, columns):
                    dependent = [index for index in range(columns)
                                 if points[index] in spanned_things(field, points[:index])]
                    if dependent:
                        self.refuses(NotApart, {"index": dependent[0]}, check_points, field, points)
                    else:
                        self.assertEqual(check_points(field, points), points)

    def test_zero_is_never_apart(self):
        for field in FIELDS:
            self.refuses(NotApart, {"index": 0}, check_points, field, (0,))
        self.refuses(NotApart, {"index": 1}, check_points, FOUR, (3, 0))
        self.refuses(NotApart, {"index": 2}, check_points, SIXTEEN, [1, 2, 3, 0])
        self.refuses(NotApart, {"index": 1}, check_points, NINE, [4, 8])

    def test_refused_points(self):
        for function, more in ((check_points, ()), (interpolated, (None,))):
            for points in NO_SEQUENCES + ((), [], (1, 2, 3), (0, 0, 0)):
                self.refuses(BadPoints, {"index": -1}, function, FOUR, points, *more)
            for thing in NO_INTEGERS + (-1, 8):
                self.refuses(BadPoints, {"index": 2}, function, EIGHT, (0, 0, thing), *more)
                self.refuses(BadPoints, {"index": 0}, function, EIGHT, (thing, None), *more)
            self.refuses(NotApart, {"index": 1}, function, EIGHT, (5, 5, 1), *more)

    def test_keeps_a_copy(self):
        points = [1, 2]
        found = check_points(FOUR, points)
        points[0] = 2
        self.assertEqual(found, (1, 2))


class InterpolatedTest(Case):
    def test_exactly_one_poly(self):
        for field, columns in ((FOUR, 1), (FOUR, 2), (NINE, 2), (EIGHT, 2), (TWO, 1)):
            chance = rng(2)
            polys = list(all_polys(field, columns))
            for _ in range(4):
                points = random_points(chance, field, columns)
                found = {tuple(slow_value(field, poly, x) for x in points): poly for poly in polys}
                self.assertEqual(len(found), len(polys))
                for values in all_words(field, columns):
                    self.assertEqual(interpolated(field, points, values), found[values])

    def test_all_fields(self):
        chance = rng(3)
        for field in FIELDS:
            for columns in range(1, field.degree + 1):
                for _ in range(6):
                    points = random_points(chance, field, columns)
                    values = random_word(chance, field, columns)
                    poly = interpolated(field, points, values)
                    self.assertLessEqual(len(poly), columns)
                    self.assertEqual(tuple(slow_value(field, poly, x) for x in points), values)
                    told = random_poly(chance, field, columns)
                    self.assertEqual(interpolated(field, points, values_at(field, told, points)),
                                     told)

    def test_known(self):
        self.assertEqual(interpolated(FOUR, (1, 2), (0, 1)), (1, 1))
        self.assertEqual(interpolated(FOUR, (1, 2), (0, 0)), ())
        self.assertEqual(interpolated(FOUR, [3], [1]), (2,))

    def test_refused_values(self):
        points = (1, 2)
        for values in NO_SEQUENCES + ((), (1,), (1, 2, 3), [9] * 3):
            self.refuses(BadWord, {"index": -1}, interpolated, EIGHT, points, values)
        for thing in NO_INTEGERS + (-1, 8):
            self.refuses(BadWord, {"index": 0}, interpolated, EIGHT, points, (thing, None))
            self.refuses(BadWord, {"index": 1}, interpolated, EIGHT, points, [7, thing])

    def test_lists(self):
        self.takes_lists(interpolated, EIGHT, (1, 2), (5, 6))
        self.takes_lists(check_points, EIGHT, (1, 2))
        self.takes_lists(poly_of_space, EIGHT, (1, 2))


class StepsThroughPointsTest(Case):
    def test_poly_of_points_that_are_apart(self):
        """The last sentence of [2.9]."""
        for field in FIELDS:
            chance = rng(4)
            for many in range(1, field.degree + 1):
                points = random_points(chance, field, many)
                through = interpolated(field, points, [field.stepped(x, many) for x in points])
                negatives = tuple(field.negative(term) for term in through)
                wanted = negatives + (0,) * (many - len(through)) + (1,)
                self.assertEqual(poly_of_space(field, points), wanted)

    def test_products_keep_zeros(self):
        for field in (FOUR, NINE):
            for outer, inner in itertools.product(list(all_polys(field, 2))[::3], repeat=2):
                if outer and inner:
                    zeros = zeros_of(field, inner)
                    self.assertFalse(any(values_at(field, put_into(field, outer, inner), zeros)))


if __name__ == "__main__":
    unittest.main()
