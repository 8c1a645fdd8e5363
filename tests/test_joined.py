"""Points [9.2] to [9.6]: closed lots joined, struck, shortened, mixed and stepped."""

import unittest

from rankwords.bounds import is_met, member_with_head
from rankwords.closed import ClosedLot, rest_lot
from rankwords.counts import rank_counts
from rankwords.errors import BadTable, NoColumn, NotInvertible, Unlike
from rankwords.evens import even_heads
from rankwords.joined import mixed, shortened, side_by_side, stepped_lot, struck
from rankwords.lots import distance_of
from rankwords.restcounts import rest_counts
from rankwords.within import members_within
from tests.support import (Case, EIGHT, FIELDS, FOUR, NINE, NO_INTEGERS, NO_SEQUENCES, SIXTEEN, TWO,
                           TWENTY_SEVEN, all_words, closed_samples, members_of, poly_lots,
                           random_closed, random_invertible, random_rows, rng, slow_mixed, slow_power,
                           slow_rank, spanned_rows, tally)

TWISTED = ((0, 1, 1), (1, 0, 1), (1, 1, 1))


def couples(seed, many=4, most=4):
    """Couples of closed lots that fit side by side."""
    chance = rng(seed)
    for field in FIELDS:
        for first in range(1, field.degree):
            for second in range(1, field.degree - first + 1):
                for _ in range(many):
                    yield chance, random_closed(chance, field, first, most), random_closed(
                        chance, field, second, most)


def with_column(seed, **more):
    """Closed lots of two columns or more, each with each of its columns."""
    for closed in closed_samples(seed, **more):
        if closed.columns > 1:
            for column in range(closed.columns):
                yield closed, column


def small_closed():
    """All closed lots of at most two words that span them, over small fields."""
    for field, columns in ((TWO, 1), (FOUR, 1), (FOUR, 2), (NINE, 1)):
        words = list(all_words(field, columns))
        seen = []
        for one in words:
            for other in words:
                closed = ClosedLot(field, columns, [one, other])
                if closed not in seen:
                    seen.append(closed)
                    yield closed


def slow_lot_distance(closed):
    """The least rank of a member but the word of zeros, or n + 1."""
    ranks = [slow_rank(closed.field, word) for word in members_of(closed) if any(word)]
    return min(ranks, default=closed.columns + 1)


def slow_counts(closed):
    return tally([slow_rank(closed.field, word) for word in members_of(closed)], closed.columns)


def turned(table):
    return tuple(zip(*table))


def inverse(prime, table):
    """The table that undoes a table, tried column by column."""
    size = len(table)
    columns = []
    for place in range(size):
        unit = tuple(int(place == at) for at in range(size))
        columns += [vector for vector in spanned_rows(prime, size, [
            tuple(int(at == spot) for at in range(size)) for spot in range(size)])
            if tuple(sum(a * b for a, b in zip(row, vector)) % prime for row in table) == unit]
    return turned(columns)


class SideBySideTest(Case):
    def test_members(self):
        for _, one, other in couples(1):
            lot = side_by_side(one, other)
            self.assertIs(type(lot), ClosedLot)
            self.assertEqual(lot.columns, one.columns + other.columns)
            self.assertEqual(lot.size, one.size * other.size)
            if lot.size <= 729:
                self.assertEqual(set(members_of(lot)), {first + second for first in members_of(one)
                                                        for second in members_of(other)})
            self.assertEqual(lot.field, one.field)

    def test_rest_lots(self):
        for _, one, other in couples(2):
            self.assertEqual(rest_lot(side_by_side(one, other)),
                             side_by_side(rest_lot(one), rest_lot(other)))

    def test_distance(self):
        found = set()
        for _, one, other in couples(3, 6, 2):
            lot = side_by_side(one, other)
            parts = [part for part in (one, other) if part.size > 1]
            wanted = min([slow_lot_distance(part) for part in parts], default=lot.columns + 1)
            self.assertEqual(slow_lot_distance(lot), wanted)
            if lot.size <= 256:
                self.assertEqual(distance_of(lot.as_lot()).distance, wanted)
            found.add(len(parts))
        self.assertEqual(found, {0, 1, 2})

    def test_within(self):
        for chance, one, other in couples(4):
            prime = one.field.prime
            first = random_rows(chance, prime, one.columns, one.columns)
            second = random_rows(chance, prime, other.columns, other.columns)
            rows = [row + (0,) * other.columns for row in first]
            rows += [(0,) * one.columns + row for row in second]
            self.assertEqual(members_within(side_by_side(one, other), rows),
                             members_within(one, first) * members_within(other, second))

    def test_counts_and_evenness(self):
        """What part 4 promises holds of lots side by side, also of great ones."""
        great = 0
        for _, one, other in couples(5, 3, 8):
            lot = side_by_side(one, other)
            field, rest = lot.field, rest_lot(lot)
            counts = rank_counts(lot)
            self.assertEqual(rest_counts(field.prime, field.degree, lot.columns, lot.size, counts),
                             rank_counts(rest))
            if lot.size <= 729:
                self.assertEqual(counts, slow_counts(lot))
            if lot.size <= 256 and field.size ** lot.columns <= 4096:
                self.assertEqual(even_heads(lot.as_lot()), slow_lot_distance(rest) - 1)
            great += lot.size > 256
        self.assertGreater(great, 10)

    def test_great(self):
        words = [[1, 0], [2, 0], [4, 0], [8, 0], [0, 1], [0, 2], [0, 4], [0, 8]]
        full = ClosedLot(SIXTEEN, 2, words)
        lot = side_by_side(full, full)
        self.assertEqual((lot.columns, lot.size, lot.dimension), (4, 2 ** 16, 16))

    def test_refused(self):
        one, other = ClosedLot(EIGHT, 2, [(1, 2)]), ClosedLot(EIGHT, 1, [(3,)])
        self.assertEqual(side_by_side(one, other).columns, 3)
        self.assertEqual(side_by_side(other, one).columns, 3)
        self.refuses(NoColumn, {}, side_by_side, one, one)
        self.refuses(Unlike, {}, side_by_side, one, ClosedLot(FOUR, 2, []))
        self.refuses(Unlike, {}, side_by_side, other, ClosedLot(TWENTY_SEVEN, 1, []))
        lot = ClosedLot(TWO, 1, [])
        self.refuses(NoColumn, {}, side_by_side, lot, lot)


class StruckTest(Case):
    def test_members(self):
        for closed, column in with_column(6, most=4):
            lot = struck(closed, column)
            self.assertEqual((lot.field, lot.columns), (closed.field, closed.columns - 1))
            self.assertEqual(set(members_of(lot)), {word[:column] + word[column + 1:]
                                                    for word in members_of(closed)})

    def test_distance(self):
        less, same = 0, 0
        for closed, column in with_column(7, most=2):
            lot, distance = struck(closed, column), slow_lot_distance(closed)
            if distance >= 2:
                self.assertEqual(lot.size, closed.size)
                self.assertIn(slow_lot_distance(lot), (distance, distance - 1))
                less += slow_lot_distance(lot) < distance
                same += slow_lot_distance(lot) == distance
        self.assertGreater(less, 10)
        self.assertGreater(same, 5)

    def test_rest_lots(self):
        for seed, most in ((8, 5), (9, 12)):
            for closed, column in with_column(seed, most=most):
                rest = rest_lot(closed)
                self.assertEqual(rest_lot(struck(closed, column)), shortened(rest, column))
                self.assertEqual(rest_lot(shortened(closed, column)), struck(rest, column))

    def test_edges(self):
        zero, words = ClosedLot(NINE, 2, []), [[1, 0], [3, 0], [0, 1], [0, 3]]
        full = ClosedLot(NINE, 2, words)
        for column in range(2):
            for function in (struck, shortened):
                self.assertEqual(function(zero, column), ClosedLot(NINE, 1, []))
                self.assertEqual(function(full, column), ClosedLot(NINE, 1, [[1], [3]]))
        lot = ClosedLot(EIGHT, 3, [(1, 2, 4)])
        self.assertEqual([struck(lot, column).basis for column in range(3)],
                         [((2, 4),), ((1, 4),), ((1, 2),)])

    def test_columns(self):
        lot, single = ClosedLot(EIGHT, 2, [(1, 2)]), ClosedLot(EIGHT, 1, [(1,)])
        for function in (struck, shortened):
            for column in NO_INTEGERS + NO_SEQUENCES + (-1, 2, 10 ** 59):
                self.refuses(NoColumn, {}, function, lot, column)
                self.refuses(NoColumn, {}, function, single, column)
            self.refuses(NoColumn, {}, function, single, 0)


class ShortenedTest(Case):
    def test_members(self):
        for closed, column in with_column(10, most=5):
            lot, members = shortened(closed, column), members_of(closed)
            self.assertEqual((lot.field, lot.columns), (closed.field, closed.columns - 1))
            self.assertEqual(set(members_of(lot)), {word[:column] + word[column + 1:]
                                                    for word in members if word[column] == 0})
            self.assertEqual(lot.size * len({word[column] for word in members}), closed.size)
            if lot.size > 1:
                self.assertGreaterEqual(slow_lot_distance(lot), slow_lot_distance(closed))

    def test_great(self):
        closed = ClosedLot(SIXTEEN, 4, [[0] * place + [1 << bit] + [0] * (3 - place)
                                        for place in range(4) for bit in range(4)])
        for column in range(4):
            self.assertEqual(shortened(closed, column).size, 2 ** 12)
            self.assertEqual(struck(closed, column).size, 2 ** 12)


class MixedTest(Case):
    def test_members(self):
        chance = rng(11)
        for closed in closed_samples(11):
            field, table = closed.field, random_invertible(chance, closed.field.prime, closed.columns)
            lot = mixed(closed, table)
            self.assertEqual((lot.field, lot.columns, lot.size),
                             (field, closed.columns, closed.size))
            self.assertEqual(set(members_of(lot)),
                             {slow_mixed(field, word, table) for word in members_of(closed)})
            self.takes_lists(mixed, closed, table)

    def test_rest_lots(self):
        """The rest lot is mixed by the inverse with rows and columns exchanged."""
        chance = rng(12)
        for closed in closed_samples(12, most=8):
            prime = closed.field.prime
            table = random_invertible(chance, prime, closed.columns)
            self.assertEqual(rest_lot(mixed(closed, table)),
                             mixed(rest_lot(closed), turned(inverse(prime, table))))

    def test_ranks(self):
        chance = rng(13)
        for closed in closed_samples(13):
            table = random_invertible(chance, closed.field.prime, closed.columns)
            for lot in (mixed(closed, table), stepped_lot(closed, chance.randrange(-5, 6))):
                self.assertEqual(slow_counts(lot), slow_counts(closed))
                self.assertEqual(rank_counts(lot), rank_counts(closed))
                self.assertEqual(slow_lot_distance(lot), slow_lot_distance(closed))

    def test_heads_of_met_lots(self):
        """Behind any mixing each head is the head of just one member."""
        chance = rng(14)
        for polylot in poly_lots(14):
            if polylot.size <= 81:
                table = random_invertible(chance, polylot.field.prime, polylot.columns)
                lot = mixed(polylot.as_closed(), table).as_lot()
                self.assertTrue(is_met(lot))
                self.assertEqual(distance_of(lot).distance, polylot.distance)
                heads = {member[:polylot.terms]: member for member in lot}
                self.assertEqual(set(heads), set(all_words(polylot.field, polylot.terms)))
                for head, member in heads.items():
                    if chance.randrange(8) == 0:
                        self.assertEqual(member_with_head(lot, head), member)

    def test_small(self):
        lot = ClosedLot(EIGHT, 3, [(1, 2, 4), (0, 0, 7)])
        self.assertEqual(mixed(lot, ((0, 1, 0), (0, 0, 1), (1, 0, 0))),
                         ClosedLot(EIGHT, 3, [(4, 1, 2), (7, 0, 0)]))
        self.assertEqual(mixed(lot, TWISTED), ClosedLot(EIGHT, 3, [(6, 5, 7), (7, 7, 7)]))
        self.assertEqual(mixed(ClosedLot(NINE, 1, [(4,)]), [[2]]), ClosedLot(NINE, 1, [(4,)]))

    def test_tables(self):
        lot = ClosedLot(EIGHT, 3, [(1, 2, 4)])
        for table in NO_SEQUENCES + ((), TWISTED[:2], TWISTED + ((0, 0, 1),)):
            self.refuses(BadTable, {}, mixed, lot, table)
        for row in NO_SEQUENCES + ((), (1, 0), (1, 0, 0, 0)):
            self.refuses(BadTable, {}, mixed, lot, [(0, 0, 0), row, (0, 0, 0)])
        for digit in NO_INTEGERS + (-1, 2, 10 ** 59):
            self.refuses(BadTable, {}, mixed, lot, ((0, 0, 0), (0, 0, 0), (0, 0, digit)))
        for table in (((0, 0, 0),) * 3, TWISTED[:2] + ((1, 1, 0),), TWISTED[:2] + TWISTED[:1]):
            self.refuses(NotInvertible, {}, mixed, lot, table)
        self.refuses(NotInvertible, {}, mixed, ClosedLot(NINE, 2, []), ((1, 2), (2, 1)))
        self.assertEqual(mixed(ClosedLot(NINE, 2, []), ((1, 2), (1, 1))), ClosedLot(NINE, 2, []))


class SteppedTest(Case):
    def test_members(self):
        for closed in closed_samples(15, most=4):
            field, members = closed.field, members_of(closed)
            for times in range(field.degree):
                lot = stepped_lot(closed, times)
                self.assertEqual((lot.field, lot.columns), (field, closed.columns))
                self.assertEqual(set(members_of(lot)), {
                    tuple(slow_power(field, thing, field.prime ** times) for thing in word)
                    for word in members})

    def test_times(self):
        for closed in closed_samples(16):
            degree = closed.field.degree
            for times in range(-degree, 2 * degree):
                lot = stepped_lot(closed, times)
                self.assertEqual(stepped_lot(lot, -times), closed)
                self.assertEqual(stepped_lot(closed, times + degree * 10 ** 28), lot)
            self.assertEqual(stepped_lot(closed, 0), closed)
            self.assertEqual(stepped_lot(closed, -degree), closed)

    def test_rest_counts(self):
        for closed in closed_samples(17, most=8):
            self.assertEqual(rank_counts(rest_lot(stepped_lot(closed, 1))),
                             rank_counts(rest_lot(closed)))


class SmallTest(Case):
    def test_gone_through(self):
        """All small lots: rest lots of struck and shortened ones, and of couples side by side."""
        found = list(small_closed())
        for closed in found:
            if closed.columns > 1:
                for column in range(closed.columns):
                    self.assertEqual(rest_lot(struck(closed, column)),
                                     shortened(rest_lot(closed), column))
                    self.assertEqual(rest_lot(shortened(closed, column)),
                                     struck(rest_lot(closed), column))
        for one in found:
            for other in found:
                if one.field == other.field and one.columns + other.columns <= one.field.degree:
                    self.assertEqual(rest_lot(side_by_side(one, other)),
                                     side_by_side(rest_lot(one), rest_lot(other)))

    def test_lots_stay(self):
        lot = ClosedLot(EIGHT, 3, [(1, 2, 4), (3, 3, 0)])
        before = lot.basis, lot.columns, lot.size
        struck(lot, 1)
        shortened(lot, 1)
        mixed(lot, TWISTED)
        stepped_lot(lot, 1)
        self.assertEqual((lot.basis, lot.columns, lot.size), before)


if __name__ == "__main__":
    unittest.main()
