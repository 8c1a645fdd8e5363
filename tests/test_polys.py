"""Points [2.1] to [2.3], the zeros of [2.6] and the reduced poly of [2.8]."""

import unittest

from rankwords.errors import BadPoly, BadThing
from rankwords.polys import (check_poly, poly_less, poly_sum, put_into, reduced_poly, value_at,
                             values_at, zeros_of)
from rankwords.spaces import space_things, things_space
from tests.support import (Case, EIGHT, FIELDS, FOUR, NINE, NO_INTEGERS, NO_SEQUENCES,
                           TWENTY_SEVEN, TWO, all_polys, random_poly, rng, slow_value)


def samples(seed, many=12, most=16):
    chance = rng(seed)
    for field in FIELDS:
        yield field, ()
        for _ in range(many):
            yield field, random_poly(chance, field, most)


class CheckPolyTest(Case):
    def test_good_polys(self):
        for field, poly in samples(1):
            self.assertEqual(check_poly(field, list(poly)), poly)
            self.assertEqual(check_poly(field, poly, len(poly)), poly)
        self.assertEqual(check_poly(FOUR, [0] * 15 + [1]), (0,) * 15 + (1,))
        self.assertEqual(check_poly(FOUR, (1,) * 40, most=40), (1,) * 40)
        self.assertEqual(check_poly(FOUR, [], 0), ())

    def test_keeps_a_copy(self):
        poly = [1, 2]
        found = check_poly(FOUR, poly)
        poly[1] = 0
        self.assertEqual(found, (1, 2))

    def test_whole(self):
        for poly in NO_SEQUENCES + ((1,) * 17, [9] * 17):
            self.refuses(BadPoly, {"index": -1}, check_poly, FOUR, poly)
        self.refuses(BadPoly, {"index": -1}, check_poly, FOUR, (1,), 0)
        self.refuses(BadPoly, {"index": -1}, check_poly, FOUR, (9, 0, 0), 2)

    def test_items(self):
        for thing in NO_INTEGERS + (-1, 4):
            self.refuses(BadPoly, {"index": 0}, check_poly, FOUR, (thing, None, 0))
            self.refuses(BadPoly, {"index": 1}, check_poly, FOUR, (1, thing, 0))
            self.refuses(BadPoly, {"index": 2}, check_poly, FOUR, [1, 0, thing])

    def test_last_item(self):
        self.refuses(BadPoly, {"index": 0}, check_poly, FOUR, (0,))
        self.refuses(BadPoly, {"index": 3}, check_poly, FOUR, [1, 2, 0, 0])
        self.refuses(BadPoly, {"index": 15}, check_poly, FOUR, (1,) * 15 + (0,))


class RefusedPolysTest(Case):
    WRONG = (((1,) * 17, -1), ("1", -1), ((1, 8, True), 1), ((1, True), 1), ([0, 3, 0], 2))

    def test_one_poly(self):
        for poly, index in self.WRONG:
            told = {"index": index}
            self.refuses(BadPoly, told, value_at, EIGHT, poly, None)
            self.refuses(BadPoly, told, values_at, EIGHT, poly, None)
            self.refuses(BadPoly, told, zeros_of, EIGHT, poly)
            self.refuses(BadPoly, told, reduced_poly, EIGHT, poly)

    def test_two_polys(self):
        for function in (poly_sum, poly_less, put_into):
            for poly, index in self.WRONG:
                self.refuses(BadPoly, {"index": index}, function, EIGHT, poly, (0, 0))
                self.refuses(BadPoly, {"index": index}, function, EIGHT, (7,) * 16, poly)


class ValuesTest(Case):
    def test_values(self):
        for field, poly in samples(2):
            wanted = [slow_value(field, poly, thing) for thing in range(field.size)]
            self.assertEqual([value_at(field, poly, x) for x in range(field.size)], wanted)
            self.assertEqual(values_at(field, poly, list(range(field.size))), tuple(wanted))

    def test_no_terms(self):
        for field in FIELDS:
            self.assertEqual(value_at(field, (), field.size - 1), 0)
            self.assertEqual(values_at(field, [], [0, 1]), (0, 0))

    def test_order_and_length(self):
        self.assertEqual(values_at(FOUR, (0, 1), (3, 2, 3)), (2, 3, 2))
        self.assertEqual(values_at(FOUR, (1,), ()), ())
        self.assertEqual(values_at(FOUR, (1,), [3] * 32), (3,) * 32)

    def test_refused_thing(self):
        for thing in NO_INTEGERS + (-1, 4):
            self.refuses(BadThing, {"index": 0}, value_at, FOUR, (1,), thing)
            self.refuses(BadThing, {"index": 2}, values_at, FOUR, (1,), (0, 1, thing, None))
        for things in NO_SEQUENCES + ((1,) * 33, [None] * 33):
            self.refuses(BadThing, {"index": -1}, values_at, FOUR, (1,), things)

    def test_sums_and_multiples(self):
        chance = rng(3)
        for field, poly in samples(3):
            for _ in range(5):
                x, y = chance.randrange(field.size), chance.randrange(field.size)
                self.assertEqual(value_at(field, poly, field.plus(x, y)),
                                 field.plus(value_at(field, poly, x), value_at(field, poly, y)))
                for c in (0, 1, 2, -1, 5, 10 ** 29):
                    self.assertEqual(value_at(field, poly, field.multiple(c, x)),
                                     field.multiple(c, value_at(field, poly, x)))


class SumsTest(Case):
    def test_term_by_term(self):
        chance = rng(4)
        for field, one in samples(4):
            for other in (random_poly(chance, field, 16), one, ()):
                for function, step in ((poly_sum, field.plus), (poly_less, field.minus)):
                    first = one + (0,) * (16 - len(one))
                    second = other + (0,) * (16 - len(other))
                    terms = [step(a, b) for a, b in zip(first, second)]
                    while terms and terms[-1] == 0:
                        terms.pop()
                    self.assertEqual(function(field, one, other), tuple(terms))

    def test_zeros_at_the_end_are_dropped(self):
        self.assertEqual(poly_sum(FOUR, (1, 2, 3), (0, 2, 3)), (1,))
        self.assertEqual(poly_less(NINE, (1, 2), (1, 2)), ())
        self.assertEqual(poly_sum(NINE, (1, 1), (2, 2)), ())
        self.assertEqual(poly_less(NINE, (), (1, 2)), (2, 1))
        self.assertEqual(poly_sum(FOUR, (), ()), ())


class PutIntoTest(Case):
    def test_example(self):
        self.assertEqual(put_into(FOUR, (1, 2), (3, 1)), (3, 2, 2))
        self.assertEqual(put_into(FOUR, (3, 1), (1, 2)), (3, 0, 3))

    def test_values_and_terms(self):
        chance = rng(5)
        for field, outer in samples(5, 6):
            for _ in range(3):
                inner = random_poly(chance, field, 16)
                both = put_into(field, outer, inner)
                if not outer or not inner:
                    self.assertEqual(both, ())
                    continue
                self.assertEqual(len(both), len(outer) + len(inner) - 1)
                for x in range(field.size):
                    self.assertEqual(slow_value(field, both, x),
                                     slow_value(field, outer, slow_value(field, inner, x)))

    def test_terms_told(self):
        chance = rng(6)
        for field in FIELDS:
            f, g = random_poly(chance, field, 9) or (1,), random_poly(chance, field, 9) or (1,)
            wanted = []
            for k in range(len(f) + len(g) - 1):
                term = 0
                for i in range(len(f)):
                    if 0 <= k - i < len(g):
                        term = field.plus(term, field.times(f[i], field.stepped(g[k - i], i)))
                wanted.append(term)
            self.assertEqual(put_into(field, f, g), tuple(wanted))

    def test_three_polys(self):
        chance = rng(7)
        for field in FIELDS:
            for _ in range(10):
                a, b, c = [random_poly(chance, field, 8) for _ in range(3)]
                self.assertEqual(put_into(field, a, put_into(field, b, c)),
                                 put_into(field, put_into(field, a, b), c))
                self.assertEqual(put_into(field, poly_sum(field, a, b), c),
                                 poly_sum(field, put_into(field, a, c), put_into(field, b, c)))
                self.assertEqual(put_into(field, a, poly_sum(field, b, c)),
                                 poly_sum(field, put_into(field, a, b), put_into(field, a, c)))
                self.assertEqual(put_into(field, (1,), a), a)
                self.assertEqual(put_into(field, a, (1,)), a)

    def test_31_terms(self):
        both = put_into(EIGHT, (1,) * 16, (1,) * 16)
        self.assertEqual(both, tuple(min(k, 30 - k) % 2 ^ 1 for k in range(31)))


class ZerosTest(Case):
    def test_gone_through(self):
        for field, poly in samples(8):
            zeros = tuple(x for x in range(field.size) if slow_value(field, poly, x) == 0)
            basis = zeros_of(field, poly)
            self.assertEqual(space_things(field, basis), zeros)
            self.assertEqual(things_space(field, basis), basis)
            if poly:
                self.assertLess(len(basis), len(poly))

    def test_all_things(self):
        self.assertEqual(zeros_of(TWO, ()), (1,))
        self.assertEqual(zeros_of(EIGHT, ()), (1, 2, 4))
        self.assertEqual(zeros_of(TWENTY_SEVEN, ()), (1, 3, 9))
        self.assertEqual(zeros_of(EIGHT, (1, 0, 0, 1)), (1, 2, 4))

    def test_known(self):
        self.assertEqual(zeros_of(FOUR, (1, 1)), (1,))
        self.assertEqual(zeros_of(FOUR, (1,)), ())


class ReducedTest(Case):
    def test_terms_are_added(self):
        for field, poly in samples(9):
            terms = [0] * field.degree
            for i, term in enumerate(poly):
                terms[i % field.degree] = field.plus(terms[i % field.degree], term)
            while terms and terms[-1] == 0:
                terms.pop()
            self.assertEqual(reduced_poly(field, poly), tuple(terms))

    def test_one_map_means_one_reduced_poly(self):
        found = {}
        for poly in all_polys(FOUR, 4):
            values = values_at(FOUR, poly, (0, 1, 2, 3))
            found.setdefault(values, set()).add(reduced_poly(FOUR, poly))
        self.assertTrue(all(len(polys) == 1 for polys in found.values()))
        self.assertEqual(len({poly for polys in found.values() for poly in polys}), len(found))
        self.assertEqual(len(found), 16)

    def test_known(self):
        self.assertEqual(reduced_poly(FOUR, (1, 2, 1, 2)), ())
        self.assertEqual(reduced_poly(FOUR, (1, 2, 3)), (2, 2))
        self.assertEqual(reduced_poly(EIGHT, ()), ())
        self.assertEqual(reduced_poly(EIGHT, (0, 0, 5)), (0, 0, 5))


class ListsTest(Case):
    def test_lists(self):
        self.takes_lists(check_poly, FOUR, (1, 2))
        self.takes_lists(zeros_of, FOUR, (1, 1))
        self.takes_lists(reduced_poly, FOUR, (1, 2, 3, 1))
        self.takes_lists(value_at, FOUR, (1, 2), 3)
        self.takes_lists(values_at, FOUR, (1, 2), (3, 0, 1))
        for function in (poly_sum, poly_less, put_into):
            self.takes_lists(function, FOUR, (1, 2), (3, 0, 1))


if __name__ == "__main__":
    unittest.main()
