"""Points [5.1] and [5.7]: nearest members, and the reach of lots."""

import unittest

from rankwords.bounds import is_met
from rankwords.closed import ClosedLot
from rankwords.errors import BadErrors, BadWord, TooMany
from rankwords.lots import Lot, distance_of
from rankwords.nearest import Nearest, far_word, members_around, nearest_members, reach_row
from rankwords.polylots import PolyLot
from tests.support import (Case, EIGHT, FIELDS, FOUR, NINE, NO_INTEGERS, NO_SEQUENCES, SIXTEEN,
                           TWENTY_SEVEN, TWO, all_words, closed_samples, lot_samples, poly_lots,
                           random_word, rng, slow_distance, slow_power, slow_ranks, slow_value,
                           tally)

LOT = PolyLot(FOUR, (1, 2), 1)
THREE = PolyLot(EIGHT, (1, 2, 4), 1)


def small_lots(seed):
    """Lots of all three kinds of at most 256 members."""
    yield from lot_samples(seed, 16, 2)
    yield from closed_samples(seed, 4, 2)
    for polylot in poly_lots(seed):
        if polylot.size <= 256:
            yield polylot


def great_lots():
    """Lots of more than 256 members, with their sizes."""
    for polylot in poly_lots(0):
        if polylot.size > 256:
            yield polylot, polylot.size
            yield polylot.as_closed(), polylot.size
    words = [(1, 0, 0), (2, 0, 0), (4, 0, 0), (0, 1, 0), (0, 2, 0), (0, 4, 0), (0, 0, 1),
             (0, 0, 2), (0, 0, 4)]
    yield ClosedLot(EIGHT, 3, words), 512


class NearestTest(Case):
    def test_gone_through(self):
        chance = rng(1)
        for lot in small_lots(1):
            for _ in range(3):
                word = random_word(chance, lot.field, lot.columns)
                ranks = {member: slow_distance(lot.field, word, member)
                         for member in lot.all_members()}
                least = min(ranks.values())
                found = nearest_members(lot, word)
                self.assertIs(type(found), Nearest)
                self.assertEqual((found.rank, found.members),
                                 (least, tuple(sorted(m for m in ranks if ranks[m] == least))))
                self.takes_lists(lambda y: nearest_members(lot, y), word)
                for rank in range(lot.columns + 1):
                    self.assertEqual(members_around(lot, list(word), rank),
                                     tuple(sorted(m for m in ranks if ranks[m] <= rank)))
                self.takes_lists(lambda y: members_around(lot, y, lot.columns), word)

    def test_members_and_far_words(self):
        for lot in (LOT, LOT.as_closed(), LOT.as_lot()):
            self.assertEqual(vars(nearest_members(lot, (2, 3))), {"rank": 0, "members": ((2, 3),)})
            self.assertEqual(members_around(lot, (2, 3), 0), ((2, 3),))
            self.assertEqual(members_around(lot, (1, 0), 0), ())
            self.assertEqual(members_around(lot, (1, 0), 2), tuple(lot.all_members()))

    def test_256_members(self):
        lot = PolyLot(SIXTEEN, (1, 2, 4, 8), 2)
        word = (1, 2, 4, 8)
        self.assertEqual(nearest_members(lot, word).members, (word,))
        self.assertEqual(len(members_around(lot, word, 4)), 256)

    def test_result(self):
        values = object(), [1]
        self.assertEqual(vars(Nearest(*values)), {"rank": values[0], "members": values[1]})
        self.assertIs(Nearest(*values).members, values[1])
        self.assertEqual(Nearest(1, ()), Nearest(1, ()))
        for other in (Nearest(2, ()), Nearest(1, ((1,),)), (1, ()), None):
            self.assertFalse(Nearest(1, ()) == other)

    def test_example(self):
        found = nearest_members(LOT, (1, 0))
        self.assertEqual((found.rank, found.members), (1, ((0, 0), (1, 2), (2, 3))))


class RefusedTest(Case):
    def test_too_many_ahead_of_all(self):
        for lot, size in great_lots():
            for word in ((0,) * lot.columns, None):
                self.refuses(TooMany, {"size": size}, nearest_members, lot, word)
                self.refuses(TooMany, {"size": size}, members_around, lot, word, None)
                self.refuses(TooMany, {"size": size}, members_around, lot, word, 0)
            self.refuses(TooMany, {"size": size}, reach_row, lot)

    def test_words(self):
        for lot in (THREE, THREE.as_closed(), THREE.as_lot()):
            for word in NO_SEQUENCES + ((), (1, 2), (1, 2, 3, 4)):
                self.refuses(BadWord, {"index": -1}, nearest_members, lot, word)
                self.refuses(BadWord, {"index": -1}, members_around, lot, word, None)
            for thing in NO_INTEGERS + (-1, 8):
                self.refuses(BadWord, {"index": 1}, nearest_members, lot, (0, thing, None))
                self.refuses(BadWord, {"index": 1}, members_around, lot, [0, thing, None], 9)

    def test_ranks(self):
        for rank in NO_INTEGERS + (-1, 4, 10 ** 59, -10 ** 59):
            self.refuses(BadErrors, {}, members_around, THREE, (0, 2, 4), rank)

    def test_too_many_words(self):
        for lot, many in ((Lot(TWENTY_SEVEN, 3, [(1, 2, 3)]), 27 ** 3),
                          (PolyLot(SIXTEEN, (1, 2, 4), 1), 16 ** 3),
                          (ClosedLot(SIXTEEN, 4, ()), 16 ** 4)):
            self.refuses(TooMany, {"size": many}, reach_row, lot)


class ReachTest(Case):
    def test_gone_through(self):
        for lot in small_lots(2):
            field, columns = lot.field, lot.columns
            members = list(lot.all_members())
            many = field.size ** columns
            if many <= 729 and many * len(members) <= 5000:
                leasts = [min(slow_distance(field, word, member) for member in members)
                          for word in all_words(field, columns)]
                row = reach_row(lot)
                self.assertEqual(row, tally(leasts, columns))
                self.assertIs(type(row), tuple)

    def test_729_words(self):
        row = reach_row(Lot(TWENTY_SEVEN, 2, [(0, 0)]))
        self.assertEqual(row, tally(slow_ranks(TWENTY_SEVEN, 2).values(), 2))
        self.assertEqual(sum(reach_row(PolyLot(TWENTY_SEVEN, (1, 3), 1))), 729)

    def test_all_words_are_members(self):
        self.assertEqual(reach_row(PolyLot(SIXTEEN, (1, 2), 2)), (256, 0, 0))
        self.assertEqual(reach_row(PolyLot(TWO, (1,), 1)), (2, 0))

    def test_met_lots(self):
        for lot in small_lots(3):
            if lot.field.size ** lot.columns <= 729 and isinstance(lot, Lot) and is_met(lot):
                reach = max(r for r, many in enumerate(reach_row(lot)) if many)
                self.assertLess(reach, distance_of(lot).distance)

    def test_poly_lots(self):
        for polylot in poly_lots(4):
            field, columns, distance = polylot.field, polylot.columns, polylot.distance
            if polylot.size <= 256 and field.size ** columns <= 729:
                row = reach_row(polylot)
                self.assertEqual(max(r for r, many in enumerate(row) if many), distance - 1)
                words = tally(slow_ranks(field, columns).values(), columns)
                for rank in range((distance + 1) // 2):
                    self.assertEqual(row[rank], polylot.size * words[rank])

    def test_example(self):
        self.assertEqual(reach_row(LOT), (4, 12, 0))


class FarWordTest(Case):
    def test_words(self):
        for polylot in poly_lots(5, 2):
            field, terms = polylot.field, polylot.terms
            wanted = tuple(slow_power(field, point, field.prime ** terms) for point in polylot.points)
            if terms == polylot.columns:
                wanted = (0,) * terms
            self.assertEqual(far_word(polylot), wanted)

    def test_distance(self):
        for polylot in poly_lots(6):
            if polylot.size <= 256:
                found = nearest_members(polylot, far_word(polylot))
                self.assertEqual(found.rank, polylot.distance - 1)
            if polylot.terms < polylot.columns:
                # It is the word of a poly of one term more, so no member.
                poly = (0,) * polylot.terms + (1,)
                self.assertEqual(far_word(polylot), tuple(slow_value(polylot.field, poly, point)
                                                          for point in polylot.points))

    def test_fields(self):
        for field in FIELDS:
            self.assertEqual(far_word(PolyLot(field, (1,), 1)), (0,))
        self.assertEqual(far_word(THREE), (1, 4, 6))
        self.assertEqual(far_word(PolyLot(NINE, (1, 3), 1)), (1, 6))


if __name__ == "__main__":
    unittest.main()
