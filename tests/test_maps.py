"""Point [2.8], and what [2.9] says of all polys."""

import itertools
import unittest

from rankwords.divisions import common_about, least_about
from rankwords.errors import BadPoly, BadTable, NotInvertible
from rankwords.maps import map_table, poly_of_map, undone_poly
from rankwords.polys import put_into, reduced_poly, value_at, values_at, zeros_of
from rankwords.spacepolys import interpolated, poly_of_space
from rankwords.spaces import meet_spaces, row_rank, space_things, sum_spaces
from rankwords.tables import table_of
from tests.support import (Case, EIGHT, FIELDS, FOUR, NINE, NO_INTEGERS, NO_SEQUENCES,
                           TWENTY_SEVEN, TWO, all_polys, random_poly, random_word, rng,
                           slow_value)

WRONG_POLYS = (((1,) * 17, -1), ("1", -1), (None, -1), ((1, 8, True), 1), ([True], 0), ([0, 3, 0], 2))


def table_product(prime, one, other):
    return tuple(tuple(sum(a * b for a, b in zip(row, column)) % prime for column in zip(*other))
                 for row in one)


def samples(seed, most=16):
    chance = rng(seed)
    for field in FIELDS:
        yield field, ()
        yield field, (1,)
        for _ in range(12):
            yield field, random_poly(chance, field, most)


class MapTableTest(Case):
    def test_columns(self):
        for field, poly in samples(1):
            table = map_table(field, poly)
            self.assertEqual(len(table), field.degree)
            for j in range(field.degree):
                value = slow_value(field, poly, field.prime ** j)
                self.assertEqual(tuple(row[j] for row in table), field.digits_of(value))

    def test_products(self):
        chance = rng(2)
        for field, poly in samples(2, 8):
            other = random_poly(chance, field, 8)
            self.assertEqual(map_table(field, put_into(field, poly, other)),
                             table_product(field.prime, map_table(field, poly),
                                           map_table(field, other)))

    def test_words_of_values(self):
        chance = rng(3)
        for field, poly in samples(3):
            word = random_word(chance, field, chance.randrange(1, field.degree + 1))
            self.assertEqual(table_of(field, values_at(field, poly, word)),
                             table_product(field.prime, map_table(field, poly),
                                           table_of(field, word)))

    def test_known(self):
        self.assertEqual(map_table(FOUR, (1, 1)), ((0, 1), (0, 0)))
        self.assertEqual(map_table(EIGHT, ()), ((0, 0, 0),) * 3)
        self.assertEqual(map_table(NINE, (2,)), ((2, 0), (0, 2)))
        self.assertEqual(map_table(FOUR, (0, 1)), ((1, 1), (0, 1)))


class PolyOfMapTest(Case):
    def test_back(self):
        for field, poly in samples(4):
            self.assertEqual(poly_of_map(field, map_table(field, poly)), reduced_poly(field, poly))

    def test_one_to_one(self):
        for field in (TWO, FOUR, NINE):
            m = field.degree
            rows = list(itertools.product(range(field.prime), repeat=m))
            polys = set()
            for table in itertools.product(rows, repeat=m):
                poly = poly_of_map(field, table)
                self.assertLessEqual(len(poly), m)
                self.assertEqual(map_table(field, poly), table)
                polys.add(poly)
            self.assertEqual(polys, set(all_polys(field, m)))

    def test_refused_tables(self):
        good = (1, 0)
        wrong = NO_SEQUENCES + (
            (), (good,), (good, good, good), (good, (1,)), ((1,), (0,)), ((), ()), (good, (1, 2)),
            (good, (-1, 0)), (good, None), (good, (1, 0, 1)), ((1, 0, 1), (1, 0, 1)), ("10", good))
        wrong += tuple((good, (digit, 1)) for digit in NO_INTEGERS)
        for table in wrong:
            self.refuses(BadTable, {}, poly_of_map, FOUR, table)
        # A table of a word that has less columns than the degree is none of a map.
        self.refuses(BadTable, {}, poly_of_map, EIGHT, ((1, 0), (0, 1), (1, 1)))

    def test_lists(self):
        self.takes_lists(poly_of_map, NINE, ((1, 2), (0, 1)))
        self.takes_lists(map_table, NINE, (4, 1))
        self.takes_lists(undone_poly, NINE, (4,))


class UndoneTest(Case):
    def check(self, field, poly):
        if zeros_of(field, poly):
            self.refuses(NotInvertible, {}, undone_poly, field, poly)
            return
        undone = undone_poly(field, poly)
        self.assertLessEqual(len(undone), field.degree)
        for x in range(field.size):
            self.assertEqual(slow_value(field, undone, slow_value(field, poly, x)), x)
            self.assertEqual(slow_value(field, poly, slow_value(field, undone, x)), x)

    def test_all_polys(self):
        for field in (TWO, FOUR, NINE):
            for poly in all_polys(field, 3 if field.size < 9 else 2):
                self.check(field, poly)

    def test_samples(self):
        for field, poly in samples(5):
            self.check(field, poly)

    def test_known(self):
        self.assertEqual(undone_poly(FOUR, (2,)), (3,))
        self.assertEqual(undone_poly(EIGHT, (0, 1)), (0, 0, 1))
        self.assertEqual(undone_poly(EIGHT, (0, 0, 0, 1)), (1,))
        self.refuses(NotInvertible, {}, undone_poly, FOUR, ())
        self.refuses(NotInvertible, {}, undone_poly, FOUR, (1, 1))

    def test_refused_polys(self):
        for poly, index in WRONG_POLYS:
            self.refuses(BadPoly, {"index": index}, undone_poly, EIGHT, poly)
            self.refuses(BadPoly, {"index": index}, map_table, EIGHT, poly)


class AllPolysTest(Case):
    """Point [2.9]; its last sentence is tested beside poly_of_space."""

    def test_rank_and_zeros(self):
        for field, poly in samples(6):
            rank = row_rank(field.prime, field.degree, map_table(field, poly))
            self.assertEqual(rank + len(zeros_of(field, poly)), field.degree)

    def meet(self, field, one, other):
        rows = [[field.digits_of(x) for x in basis] for basis in (one, other)]
        found = meet_spaces(field.prime, field.degree, *rows)
        return tuple(field.thing_of(row) for row in found)

    def join(self, field, one, other):
        rows = [[field.digits_of(x) for x in basis] for basis in (one, other)]
        found = sum_spaces(field.prime, field.degree, *rows)
        return tuple(field.thing_of(row) for row in found)

    def test_common_zeros(self):
        chance = rng(7)
        for field, one in samples(7, 8):
            for other in (random_poly(chance, field, 8), put_into(field, (1, 1), one), ()):
                common = common_about(field, one, other)
                self.assertEqual(zeros_of(field, common),
                                 self.meet(field, zeros_of(field, one), zeros_of(field, other)))

    def test_polys_of_two_spaces(self):
        chance = rng(8)
        for field in FIELDS:
            for _ in range(10):
                one = random_word(chance, field, chance.randrange(4))
                other = random_word(chance, field, chance.randrange(4))
                polys = poly_of_space(field, one), poly_of_space(field, other)
                self.assertEqual(common_about(field, *polys),
                                 poly_of_space(field, self.meet(field, one, other)))
                self.assertEqual(least_about(field, *polys),
                                 poly_of_space(field, self.join(field, one, other)))

    def test_zeros_of_products(self):
        chance = rng(9)
        for field, inner in samples(9, 8):
            outer = random_poly(chance, field, 8)
            about, within = put_into(field, outer, inner), put_into(field, inner, outer)
            zeros = set(space_things(field, zeros_of(field, inner)))
            for x in range(field.size):
                if x in zeros:
                    self.assertEqual(value_at(field, about, x), 0)
                self.assertEqual(value_at(field, within, x) == 0,
                                 value_at(field, outer, x) in zeros)

    def test_example(self):
        self.assertEqual((FOUR.times(2, 2), FOUR.times(2, 3), FOUR.times(3, 3)), (3, 1, 2))
        self.assertEqual([FOUR.stepped(x, 1) for x in range(4)], [0, 1, 3, 2])
        self.assertEqual(put_into(FOUR, (1, 2), (3, 1)), (3, 2, 2))
        self.assertEqual(put_into(FOUR, (3, 1), (1, 2)), (3, 0, 3))
        poly = poly_of_space(FOUR, (1,))
        self.assertEqual(poly, (1, 1))
        self.assertEqual(values_at(FOUR, poly, (1, 2)), (0, 1))
        self.assertEqual(map_table(FOUR, poly), ((0, 1), (0, 0)))
        self.assertEqual(interpolated(FOUR, (1, 2), (0, 1)), (1, 1))

    def test_27_things(self):
        poly = poly_of_space(TWENTY_SEVEN, (5,))
        self.assertEqual(space_things(TWENTY_SEVEN, zeros_of(TWENTY_SEVEN, poly)), (0, 5, 7))


if __name__ == "__main__":
    unittest.main()
