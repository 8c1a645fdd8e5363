"""Points [3.3] to [3.5]."""

import itertools
import unittest

from rankwords.bounds import bound_of, crowded_couple, is_met, member_with_head
from rankwords.errors import BadDistance, BadHead, NotMet
from rankwords.lots import Lot, distance_of
from rankwords.polylots import PolyLot
from rankwords.spaces import row_rank
from rankwords.tables import times_table, word_sum
from tests.support import (Case, EIGHT, FIELDS, FOUR, NINE, NO_INTEGERS, NO_SEQUENCES,
                           SIXTEEN, TWO, all_words, random_points, random_word, rng)
from tests.test_lots import random_lots


def met_lots():
    """Lots of as many members as the bound tells, closed ones and others."""
    chance = rng(30)
    for field in FIELDS:
        for columns in range(1, field.degree + 1):
            for terms in range(1, columns + 1):
                if field.size ** terms <= 256:
                    lot = PolyLot(field, random_points(chance, field, columns), terms).as_lot()
                    yield lot
                    word = random_word(chance, field, columns)
                    yield Lot(field, columns, [word_sum(field, word, member) for member in lot])
            yield Lot(field, columns, [random_word(chance, field, columns)])


class BoundTest(Case):
    def test_powers(self):
        for field in FIELDS:
            for columns in range(1, field.degree + 1):
                for distance in range(1, columns + 2):
                    power = field.degree * (columns - distance + 1)
                    self.assertEqual(bound_of(field, columns, distance), field.prime ** power)

    def test_distance_columns_and_1(self):
        for field in FIELDS:
            for columns in range(1, field.degree + 1):
                self.assertEqual(bound_of(field, columns, columns + 1), 1)

    def test_refused_distance(self):
        lot = Lot(EIGHT, 2, [(1, 2), (1, 3)])
        for distance in NO_INTEGERS + (0, -1, 4, 10 ** 59):
            self.refuses(BadDistance, {}, bound_of, EIGHT, 2, distance)
            self.refuses(BadDistance, {}, crowded_couple, lot, distance)
        self.refuses(BadDistance, {}, bound_of, TWO, 1, 3)
        self.refuses(BadDistance, {}, crowded_couple, Lot(EIGHT, 2, [(0, 0)]), 4)


class CrowdedTest(Case):
    def test_gone_through(self):
        for field, columns, words in random_lots(4, 25):
            lot = Lot(field, columns, words)
            least = distance_of(lot).distance
            for distance in range(1, columns + 2):
                length = columns - distance + 1
                crowded = [couple for couple in itertools.combinations(lot.members, 2)
                           if couple[0][:length] == couple[1][:length]]
                found = crowded_couple(lot, distance)
                self.assertEqual(found, min(crowded) if crowded else None)
                # Point [3.4].
                if crowded:
                    self.assertLess(least, distance)
                if lot.size > bound_of(field, columns, distance):
                    self.assertIsNotNone(found)

    def test_head_of_no_things(self):
        self.assertEqual(crowded_couple(Lot(FOUR, 2, [(3, 3), (1, 0), (2, 2)]), 3),
                         ((1, 0), (2, 2)))
        self.assertIsNone(crowded_couple(Lot(FOUR, 2, [(3, 3)]), 3))

    def test_known(self):
        lot = Lot(FOUR, 2, [(0, 1), (1, 3), (2, 0), (2, 2), (2, 3)])
        self.assertEqual(crowded_couple(lot, 2), ((2, 0), (2, 2)))
        self.assertIsNone(crowded_couple(lot, 1))


class MetTest(Case):
    def test_met_lots(self):
        for lot in met_lots():
            self.assertIs(is_met(lot), True)

    def test_by_the_bound(self):
        for field, columns, words in random_lots(5, 20):
            lot = Lot(field, columns, words)
            bound = bound_of(field, columns, distance_of(lot).distance)
            self.assertIs(is_met(lot), lot.size == bound)
        self.assertIs(is_met(Lot(FOUR, 2, [(0, 0), (1, 2), (2, 3)])), False)
        self.assertIs(is_met(Lot(FOUR, 2, [(0, 0), (0, 1), (0, 2), (0, 3)])), False)
        self.assertIs(is_met(Lot(FOUR, 1, [(3,)])), True)
        self.assertIs(is_met(Lot(TWO, 1, [(0,), (1,)])), True)
        self.assertIs(is_met(Lot(SIXTEEN, 2, list(all_words(SIXTEEN, 2)))), True)

    def test_every_head_once(self):
        for lot in met_lots():
            length = lot.columns - distance_of(lot).distance + 1
            heads = [word[:length] for word in lot]
            self.assertEqual(sorted(heads), list(all_words(lot.field, length)))
            for at in {0, lot.size // 2, lot.size - 1}:
                self.assertEqual(member_with_head(lot, heads[at]), lot.members[at])
                self.assertEqual(member_with_head(lot, list(heads[at])), lot.members[at])

    def test_every_head_once_behind_mixing(self):
        chance = rng(31)
        for lot in met_lots():
            length = lot.columns - distance_of(lot).distance + 1
            prime, columns = lot.field.prime, lot.columns
            table = ()
            while row_rank(prime, columns, table) < columns:
                table = [[chance.randrange(prime) for _ in range(columns)] for _ in range(columns)]
            heads = [times_table(lot.field, word, table)[:length] for word in lot]
            self.assertEqual(sorted(heads), list(all_words(lot.field, length)))

    def test_one_member(self):
        for field in FIELDS:
            lot = Lot(field, field.degree, [(1,) * field.degree])
            self.assertEqual(member_with_head(lot, ()), (1,) * field.degree)
            self.assertEqual(member_with_head(lot, []), (1,) * field.degree)
            for head in NO_SEQUENCES + ((1,), (0,) * field.degree, ""):
                self.refuses(BadHead, {}, member_with_head, lot, head)

    def test_not_met(self):
        lot = Lot(FOUR, 2, [(0, 0), (1, 2), (2, 3)])
        for head in ((1,), (), (9,), None):
            self.refuses(NotMet, {}, member_with_head, lot, head)

    def test_refused_head(self):
        lot = PolyLot(NINE, (1, 3), 1).as_lot()
        for head in NO_SEQUENCES + ((), [], (1, 2), (9,), (-1,), ((1,),)):
            self.refuses(BadHead, {}, member_with_head, lot, head)
        for thing in NO_INTEGERS:
            self.refuses(BadHead, {}, member_with_head, lot, (thing,))
        self.assertEqual(member_with_head(lot, (4,)), (4, NINE.times(4, 3)))


if __name__ == "__main__":
    unittest.main()
