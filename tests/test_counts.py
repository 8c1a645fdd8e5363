"""Point [4.7], and what [1.10], [3.2] and [3.8] say of counts."""

import unittest

from rankwords.closed import ClosedLot, rest_lot
from rankwords.counts import counts_of, couple_counts, least_members, rank_counts
from rankwords.formulas import met_counts, words_of_rank
from rankwords.lots import Lot, distance_of
from rankwords.polylots import PolyLot
from rankwords.restcounts import counts_fault, identity_sides, rest_counts, turned_counts
from rankwords.tables import scaled_word, stepped_word, times_table, word_sum
from tests.support import (Case, EIGHT, FIELDS, NINE, SIXTEEN, TWENTY_SEVEN, closed_samples,
                           lot_samples, members_of, poly_lots, random_invertible, random_word, rng,
                           slow_distance, slow_rank, tally)


def all_of(field, columns):
    """The closed lot of all words."""
    return rest_lot(ClosedLot(field, columns, ()))


class CountsTest(Case):
    def test_gone_through(self):
        for lot in lot_samples(1):
            counts = counts_of(lot)
            self.assertEqual(counts, tally([slow_rank(lot.field, word) for word in lot], lot.columns))
            self.assertIs(type(counts), tuple)

    def test_edges(self):
        self.assertEqual(counts_of(Lot(EIGHT, 3, [(0, 0, 0)])), (1, 0, 0, 0))
        self.assertEqual(counts_of(Lot(EIGHT, 2, [(1, 2)])), (0, 0, 1))
        self.assertEqual(counts_of(Lot(EIGHT, 1, [(x,) for x in range(8)])), (1, 7))
        self.assertEqual(counts_of(Lot(SIXTEEN, 2, [(x, y) for x in range(16) for y in range(16)])),
                         (1, 45, 210))

    def test_example(self):
        lot = PolyLot(EIGHT, (1, 2, 4), 1).as_lot()
        self.assertEqual(counts_of(lot), (1, 0, 0, 7))
        self.assertEqual(couple_counts(lot), (8, 0, 0, 56))
        self.assertEqual(turned_counts(2, 3, 3, couple_counts(lot)), (64, 0, 3136, 896))


class CouplesTest(Case):
    def test_gone_through(self):
        for lot in lot_samples(2):
            ranks = [slow_distance(lot.field, one, other) for one in lot for other in lot]
            couples = couple_counts(lot)
            self.assertEqual(couples, tally(ranks, lot.columns))
            self.assertIs(type(couples), tuple)
            self.assertEqual(sum(couples), couples[0] ** 2)

    def test_distance(self):
        """The distance of a lot is the first rank from 1 that a couple has."""
        for lot in lot_samples(3):
            couples = couple_counts(lot)
            ranks = [rank for rank in range(1, lot.columns + 1) if couples[rank]]
            self.assertEqual(distance_of(lot).distance, min(ranks + [lot.columns + 1]))

    def test_closed_lots(self):
        for closed in closed_samples(4, 4):
            lot = closed.as_lot()
            self.assertEqual(couple_counts(lot),
                             tuple(lot.size * count for count in counts_of(lot)))

    def test_256_members(self):
        lot = all_of(SIXTEEN, 2).as_lot()
        self.assertEqual(couple_counts(lot), (256, 256 * 45, 256 * 210))


class LeastTest(Case):
    def test_gone_through(self):
        for lot in lot_samples(5):
            ranks = {word: slow_rank(lot.field, word) for word in lot if any(word)}
            wanted = sorted(word for word in ranks if ranks[word] == min(ranks.values()))
            self.assertEqual(least_members(lot), tuple(wanted))

    def test_edges(self):
        self.assertEqual(least_members(Lot(EIGHT, 2, [(0, 0)])), ())
        self.assertEqual(least_members(Lot(EIGHT, 2, [(5, 2)])), ((5, 2),))
        self.assertEqual(least_members(Lot(EIGHT, 2, [(3, 3), (1, 2), (0, 0), (0, 7)])),
                         ((0, 7), (3, 3)))

    def test_closed_lots(self):
        """For a closed lot their rank is the distance."""
        for closed in closed_samples(6, 4):
            least = least_members(closed.as_lot())
            if closed.dimension:
                self.assertEqual({slow_rank(closed.field, word) for word in least},
                                 {distance_of(closed.as_lot()).distance})
            else:
                self.assertEqual(least, ())


class RankCountsTest(Case):
    def check(self, closed):
        wanted = tally([slow_rank(closed.field, word) for word in members_of(closed)],
                       closed.columns)
        self.assertEqual(rank_counts(closed), wanted)
        return wanted

    def test_any_size(self):
        for closed in closed_samples(7, 6, 2):
            if closed.size <= 8192:
                self.check(closed)

    def test_beyond_256_members(self):
        sizes = set()
        for closed in closed_samples(8, 16, 4, [EIGHT, NINE, TWENTY_SEVEN, SIXTEEN]):
            if 256 < closed.size <= 8192:
                self.check(closed)
                sizes.add(closed.size)
        self.assertTrue({512, 729, 4096} <= sizes, sizes)

    def test_256_and_512_members(self):
        words = [tuple(1 << bit if at == place else 0 for at in range(4))
                 for place in range(4) for bit in range(4)]
        for many in (7, 8, 9, 10):
            counts = self.check(ClosedLot(SIXTEEN, 4, words[:many]))
            self.assertEqual(sum(counts), 2 ** many)

    def test_all_words(self):
        for field in FIELDS:
            for columns in range(1, field.degree + 1):
                counts = rank_counts(all_of(field, columns))
                self.assertEqual(counts, tuple(words_of_rank(field.prime, field.degree, columns, rank)
                                               for rank in range(columns + 1)))

    def test_poly_lots(self):
        for polylot in poly_lots(9):
            field = polylot.field
            self.assertEqual(rank_counts(polylot.as_closed()),
                             met_counts(field.prime, field.degree, polylot.columns,
                                        polylot.distance))

    def test_rest_lots(self):
        """Counts and rest counts determine each other, for lots of any size."""
        for closed in closed_samples(10, 16, 4):
            field, columns = closed.field, closed.columns
            rest = rest_lot(closed)
            counts, others = rank_counts(closed), rank_counts(rest)
            sizes = field.prime, field.degree, columns
            self.assertEqual(sum(counts) * sum(others), field.size ** columns)
            self.assertEqual(rest_counts(*sizes, closed.size, counts), others)
            self.assertEqual(rest_counts(*sizes, rest.size, others), counts)
            self.assertIsNone(counts_fault(*sizes, closed.size, counts))
            for part in range(columns + 1):
                left, right = identity_sides(*sizes, closed.size, counts, others, part)
                self.assertEqual(left, right)


class ChangedLotsTest(Case):
    def changed_words(self, chance, field, columns, words):
        """The words mixed by an invertible table, stepped, and scaled by a thing that is not 0."""
        table = random_invertible(chance, field.prime, columns)
        yield [times_table(field, word, table) for word in words]
        times = chance.randrange(-5, 6)
        yield [stepped_word(field, word, times) for word in words]
        thing = chance.randrange(1, field.size)
        yield [scaled_word(field, thing, word) for word in words]

    def test_counts_stay(self):
        chance = rng(11)
        for lot in lot_samples(11):
            for words in self.changed_words(chance, lot.field, lot.columns, lot.members):
                other = Lot(lot.field, lot.columns, words)
                self.assertEqual(counts_of(other), counts_of(lot))
                self.assertEqual(couple_counts(other), couple_counts(lot))
                self.assertEqual(len(least_members(other)), len(least_members(lot)))

    def test_counts_of_closed_lots_stay(self):
        chance = rng(12)
        for closed in closed_samples(12, 14, 2):
            for words in self.changed_words(chance, closed.field, closed.columns, closed.basis):
                other = ClosedLot(closed.field, closed.columns, words)
                self.assertEqual(rank_counts(other), rank_counts(closed))

    def test_couples_of_moved_lots_stay(self):
        chance = rng(13)
        for lot in lot_samples(13):
            word = random_word(chance, lot.field, lot.columns)
            moved = Lot(lot.field, lot.columns, [word_sum(lot.field, word, one) for one in lot])
            self.assertEqual(couple_counts(moved), couple_counts(lot))


if __name__ == "__main__":
    unittest.main()
