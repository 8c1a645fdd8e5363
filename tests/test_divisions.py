"""Points [2.4] and [2.5]."""

import itertools
import unittest

from rankwords.divisions import (common_about, common_parts, divided_about, divided_within,
                                 least_about)
from rankwords.errors import BadPoly, NoDivisor
from rankwords.polys import put_into
from tests.support import Case, EIGHT, FIELDS, FOUR, NINE, TWO, all_polys, random_poly, rng, slow_sum

ALL = (divided_within, divided_about, common_about, common_parts, least_about)


def couples(seed, many=15, most=16):
    """Couples of polys, some of them with a factor in common, some with ()."""
    chance = rng(seed)
    for field in FIELDS:
        for _ in range(many):
            yield field, random_poly(chance, field, most), random_poly(chance, field, most)
            common = random_poly(chance, field, most // 2)
            one, other = [put_into(field, random_poly(chance, field, most // 2), common)
                          for _ in range(2)]
            yield field, one, other
        poly = random_poly(chance, field, most - 1) + (1,)
        for one, other in ((poly, poly), (poly, ()), ((), poly), ((), ()), (poly, (1,)), ((1,), poly)):
            yield field, one, other


def lies_about(field, poly, divisor):
    return divided_about(field, poly, divisor)[1] == ()


class DivisionTest(Case):
    def test_couples_fit(self):
        for field, poly, divisor in couples(1):
            if not divisor:
                continue
            for function, order in ((divided_within, 1), (divided_about, -1)):
                quotient, rest = function(field, poly, divisor)
                both = put_into(field, *(divisor, quotient)[::order])
                self.assertEqual(slow_sum(field, both, rest), poly)
                self.assertLess(len(rest), len(divisor))
                if len(poly) < len(divisor):
                    self.assertEqual((quotient, rest), ((), poly))
                else:
                    self.assertEqual(len(quotient), len(poly) - len(divisor) + 1)

    def test_exactly_one_couple_fits(self):
        for field, most in ((FOUR, 2), (NINE, 1), (TWO, 3)):
            polys = list(all_polys(field, most))
            for divisor in polys[1:]:
                rests = [rest for rest in polys if len(rest) < len(divisor)]
                for order, function in ((1, divided_within), (-1, divided_about)):
                    found = {}
                    for quotient, rest in itertools.product(polys, rests):
                        both = put_into(field, *(divisor, quotient)[::order])
                        poly = slow_sum(field, both, rest)
                        self.assertNotIn(poly, found)
                        found[poly] = quotient, rest
                    for poly, fitting in found.items():
                        self.assertEqual(function(field, poly, divisor), fitting)

    def test_the_two_are_unlike(self):
        product = put_into(FOUR, (3, 2), (1, 2))
        self.assertEqual(product, (3, 3, 1))
        self.assertEqual(divided_about(FOUR, product, (1, 2)), ((3, 2), ()))
        self.assertEqual(divided_within(FOUR, product, (3, 2)), ((1, 2), ()))
        self.assertEqual(divided_within(FOUR, product, (1, 2)), ((2, 2), (1,)))
        self.assertEqual(divided_about(FOUR, product, (3, 2)), ((0, 2), (3,)))

    def test_no_divisor(self):
        for function in (divided_within, divided_about):
            for poly in ((), (1,), (1,) * 16):
                self.refuses(NoDivisor, {}, function, EIGHT, poly, ())
                self.refuses(NoDivisor, {}, function, EIGHT, poly, [])
            self.assertEqual(function(EIGHT, (), (3,)), ((), ()))

    def test_refused_polys(self):
        wrong = (((1,) * 17, -1), ("1", -1), (None, -1), ((1, 8, True), 1), ([True], 0), ([0, 3, 0], 2))
        for function in ALL:
            for poly, index in wrong:
                self.refuses(BadPoly, {"index": index}, function, EIGHT, poly, ())
                self.refuses(BadPoly, {"index": index}, function, EIGHT, poly, (0, 0))
                self.refuses(BadPoly, {"index": index}, function, EIGHT, (), poly)

    def test_lists(self):
        for function in ALL:
            self.takes_lists(function, NINE, (1, 2, 3, 1), (4, 1))


class CommonTest(Case):
    def test_polys_with_nothing(self):
        for field in FIELDS:
            last = field.size - 1
            self.assertEqual(common_about(field, (), ()), ())
            self.assertEqual(least_about(field, (), ()), ())
            self.assertEqual(least_about(field, (last,), ()), ())
            self.assertEqual(least_about(field, (), (last, 1)), ())
            scaled = (field.inverse(last), 0, 1)
            self.assertEqual(common_about(field, (1, 0, last), ()), scaled)
            self.assertEqual(common_about(field, (), (1, 0, last)), scaled)

    def test_most_terms(self):
        polys = list(all_polys(FOUR, 3))
        ended = [poly for poly in polys if poly and poly[-1] == 1]
        about = {poly: {end for end in ended if lies_about(FOUR, poly, end)} for poly in polys}
        for one, other in itertools.product(polys, repeat=2):
            if not one and not other:
                continue
            both = about[one] & about[other]
            most = max(len(poly) for poly in both)
            found = common_about(FOUR, one, other)
            self.assertEqual([poly for poly in both if len(poly) == most], [found])
            # A poly about which both lie is one about which the common one lies.
            self.assertEqual(both, about[found])

    def test_parts(self):
        for field, one, other in couples(2):
            common, by_one, by_other = common_parts(field, one, other)
            self.assertEqual(common, common_about(field, one, other))
            self.assertLessEqual(max(len(by_one), len(by_other)), 16)
            self.assertEqual(slow_sum(field, put_into(field, by_one, one),
                                      put_into(field, by_other, other)), common)

    def test_known(self):
        product = put_into(FOUR, (3, 2), (1, 1))
        self.assertEqual(common_about(FOUR, product, (2, 2)), (1, 1))
        self.assertEqual(common_about(FOUR, (2, 1), (1, 1)), (1,))
        self.assertEqual(common_about(EIGHT, (3,), (5,)), (1,))


class LeastTest(Case):
    def test_fewest_terms(self):
        polys = [poly for poly in all_polys(FOUR, 2) if poly]
        ended = [poly for poly in all_polys(FOUR, 4) if poly and poly[-1] == 1]
        about = {poly: {end for end in ended if lies_about(FOUR, end, poly)} for poly in polys}
        for one, other in itertools.product(polys, repeat=2):
            both = about[one] & about[other]
            fewest = min(len(poly) for poly in both)
            found = least_about(FOUR, one, other)
            self.assertEqual([poly for poly in both if len(poly) == fewest], [found])
            # A poly lies about the least one exactly if it lies about both.
            self.assertEqual(both, {end for end in ended if lies_about(FOUR, end, found)})

    def test_terms_of_both(self):
        for field, one, other in couples(3, most=8):
            if not one or not other:
                continue
            common, least = common_about(field, one, other), least_about(field, one, other)
            self.assertEqual(len(common) + len(least), len(one) + len(other))
            self.assertEqual((common[-1], least[-1]), (1, 1))
            for poly in (one, other):
                self.assertTrue(lies_about(field, least, poly))
                self.assertTrue(lies_about(field, poly, common))

    def test_31_terms(self):
        chance = rng(4)
        for field in FIELDS:
            one, other = [random_poly(chance, field, 16)[:-1] for _ in range(2)]
            one, other = [poly + (0,) * (15 - len(poly)) + (1,) for poly in (one, other)]
            common, least = common_about(field, one, other), least_about(field, one, other)
            self.assertEqual(len(common) + len(least), 32)


if __name__ == "__main__":
    unittest.main()
