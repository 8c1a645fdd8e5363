"""Points [5.8] and [5.9]: ways, middles and words between words."""

import itertools
import unittest

from rankwords.counting import space_count
from rankwords.errors import BadErrors, BadWord
from rankwords.lots import distance_of
from rankwords.middles import (all_between, between_count, middle_fault, middle_word, rank_parts,
                               way_between)
from rankwords.nearest import nearest_members
from rankwords.polylots import PolyLot
from rankwords.reading import Far, read_word
from rankwords.spaces import things_space
from rankwords.tables import table_of
from tests.support import (Case, EIGHT, FIELDS, FOUR, NINE, NO_INTEGERS, NO_SEQUENCES, SIXTEEN,
                           TWENTY_SEVEN, all_words, poly_lots, random_word, rng, slow_distance,
                           slow_less, slow_rank, slow_ranks, spanned_rows, spanned_things)


def couples(seed, many=3):
    """Couples of words of one length, some of them equal or of small distance."""
    chance = rng(seed)
    for field in FIELDS:
        for columns in range(1, field.degree + 1):
            for _ in range(many):
                one, other = [random_word(chance, field, columns) for _ in range(2)]
                yield field, one, other
            yield field, one, one
            yield field, one, tuple(field.plus(thing, 1) for thing in one)


class PartsTest(Case):
    def test_parts(self):
        for field, word, _ in couples(1):
            basis = things_space(field, word)
            parts = rank_parts(field, word)
            self.assertEqual(len(parts), len(basis))
            total = (0,) * len(word)
            for part, thing in zip(parts, basis):
                self.assertEqual(slow_rank(field, part), 1)
                multiples = [field.multiple(c, thing) for c in range(field.prime)]
                self.assertTrue(all(item in multiples for item in part))
                total = tuple(map(field.plus, total, part))
            self.assertEqual(total, word)
            self.takes_lists(rank_parts, field, word)

    def test_edges(self):
        for field in FIELDS:
            self.assertEqual(rank_parts(field, (0,) * field.degree), ())
            self.assertEqual(rank_parts(field, [1]), ((1,),))
        self.assertEqual(rank_parts(FOUR, (3, 2)), ((1, 0), (2, 2)))
        self.assertEqual(rank_parts(NINE, (2, 5)), ((2, 2), (0, 3)))

    def test_known(self):
        """The parts go by the echelon basis of the space of things, lowest digit first."""
        # The things 3 and 6 have the basis 5 = 1 + 4, 6 = 2 + 4.
        self.assertEqual(things_space(EIGHT, (3, 6)), (5, 6))
        self.assertEqual(rank_parts(EIGHT, (3, 6)), ((5, 0), (6, 6)))


class WayTest(Case):
    def test_ways(self):
        for field, one, other in couples(2):
            way = way_between(field, one, other)
            self.assertEqual((way[0], way[-1]), (one, other))
            self.assertEqual(len(way), slow_distance(field, one, other) + 1)
            for a, b in itertools.combinations(range(len(way)), 2):
                self.assertEqual(slow_distance(field, way[a], way[b]), b - a)
            parts = rank_parts(field, slow_less(field, other, one))
            steps = tuple(slow_less(field, b, a) for a, b in zip(way, way[1:]))
            self.assertEqual(steps, parts)
            self.takes_lists(way_between, field, one, other)

    def test_middles(self):
        for field, one, other in couples(3):
            way = way_between(field, one, other)
            middle = middle_word(field, one, other)
            self.assertEqual(middle, way[(len(way) - 1) // 2])
            self.assertIsNone(middle_fault(field, one, other, middle))
            self.assertIsNone(middle_fault(field, list(one), list(other), list(middle)))
            self.takes_lists(middle_word, field, one, other)

    def test_example(self):
        self.assertEqual(middle_word(FOUR, (0, 0), (1, 2)), (1, 0))
        self.assertEqual(way_between(FOUR, (0, 0), (1, 2)), ((0, 0), (1, 0), (1, 2)))


class MiddleFaultTest(Case):
    def test_all_words(self):
        chance = rng(4)
        for field, columns in ((FOUR, 2), (EIGHT, 2), (NINE, 2), (EIGHT, 3)):
            for _ in range(3):
                one, other = [random_word(chance, field, columns) for _ in range(2)]
                rank = slow_distance(field, one, other)
                for word in all_words(field, columns):
                    fault = middle_fault(field, one, other, word)
                    if slow_distance(field, one, word) != rank // 2:
                        self.assertEqual(fault, "one")
                    elif slow_distance(field, word, other) != rank - rank // 2:
                        self.assertEqual(fault, "other")
                    else:
                        self.assertIsNone(fault)

    def test_words(self):
        self.assertEqual(middle_fault(FOUR, (0, 0), (1, 2), (0, 0)), "one")
        self.assertEqual(middle_fault(FOUR, (0, 0), (1, 2), (0, 1)), "other")
        self.assertIsNone(middle_fault(FOUR, (0, 0), (1, 2), (3, 0)))
        # An odd distance: one step of three first, not two.
        self.assertIsNone(middle_fault(EIGHT, (0, 0, 0), (1, 2, 4), (1, 0, 0)))
        self.assertEqual(middle_fault(EIGHT, (0, 0, 0), (1, 2, 4), (1, 2, 0)), "one")
        self.assertIsNone(middle_fault(EIGHT, (5, 2), (5, 2), (5, 2)))


class RefusedTest(Case):
    def test_words(self):
        for word in NO_SEQUENCES + ((), (1, 2, 3, 4)):
            self.refuses(BadWord, {"index": -1}, rank_parts, EIGHT, word)
            for function in (way_between, middle_word):
                self.refuses(BadWord, {"index": -1}, function, EIGHT, word, None)
                self.refuses(BadWord, {"index": -1}, function, EIGHT, (1, 2), word)
            self.refuses(BadWord, {"index": -1}, middle_fault, EIGHT, (1, 2), (3, 4), word)
            self.refuses(BadWord, {"index": -1}, all_between, EIGHT, (1, 2), word, None)

    def test_things(self):
        for thing in NO_INTEGERS + (-1, 8):
            self.refuses(BadWord, {"index": 1}, rank_parts, EIGHT, (0, thing, None))
            for function in (way_between, middle_word):
                self.refuses(BadWord, {"index": 1}, function, EIGHT, [0, thing], (9, 9))
                self.refuses(BadWord, {"index": 0}, function, EIGHT, [0, 1], (thing, 9))
            self.refuses(BadWord, {"index": 0}, middle_fault, EIGHT, (thing, 9), (9,), (9, 9))
            self.refuses(BadWord, {"index": 1}, middle_fault, EIGHT, (1, 2), (1, thing), (9,))
            self.refuses(BadWord, {"index": 0}, middle_fault, EIGHT, (1, 2), (1, 2), (thing, 9))
            self.refuses(BadWord, {"index": 0}, all_between, EIGHT, (1, 2), (thing, 2), 9)

    def test_lengths(self):
        """The later words must have the length of the first one."""
        for word in ((1,), (1, 2, 3)):
            for function in (way_between, middle_word):
                self.refuses(BadWord, {"index": -1}, function, EIGHT, (1, 2), word)
            self.refuses(BadWord, {"index": -1}, middle_fault, EIGHT, (1, 2), word, (1, 2))
            self.refuses(BadWord, {"index": -1}, middle_fault, EIGHT, (1, 2), (3, 4), word)
            self.refuses(BadWord, {"index": -1}, all_between, EIGHT, (1, 2), word, 0)

    def test_first(self):
        for first in NO_INTEGERS + (-1, 3, 10 ** 59, -10 ** 59):
            self.refuses(BadErrors, {}, all_between, EIGHT, (0, 0), (1, 2), first)
            self.refuses(BadErrors, {}, between_count, 2, 2, first)
        self.refuses(BadErrors, {}, all_between, EIGHT, (1, 2), (1, 2), 1)
        for rank in NO_INTEGERS + (-1, 13, 10 ** 59, -10 ** 59):
            self.refuses(BadErrors, {}, between_count, 2, rank, 0)
            self.refuses(BadErrors, {}, between_count, 3, rank, None)


class CountTest(Case):
    def test_numbers(self):
        for prime, rank in itertools.product((2, 3), range(13)):
            for first in range(rank + 1):
                self.assertEqual(between_count(prime, rank, first),
                                 space_count(prime, rank, first) * prime ** (first * (rank - first)))
            self.assertEqual(between_count(prime, rank, 0), 1)
            self.assertEqual(between_count(prime, rank, rank), 1)
        self.assertEqual(between_count(2, 2, 1), 6)
        self.assertEqual(between_count(2, 4, 2), 560)
        self.assertEqual(between_count(3, 3, 1), 117)


class BetweenTest(Case):
    def test_gone_through(self):
        for field, one, other in couples(5, 2):
            if field.size ** len(one) > 800:
                continue
            ranks = slow_ranks(field, len(one))
            rank = slow_distance(field, one, other)
            for first in range(rank + 1):
                wanted = tuple(word for word in all_words(field, len(one))
                               if ranks[slow_less(field, word, one)] == first
                               and ranks[slow_less(field, other, word)] == rank - first)
                self.assertEqual(all_between(field, one, other, first), wanted)
                self.assertEqual(len(wanted), between_count(field.prime, rank, first))

    def test_many_words(self):
        for field, one, other in couples(6, 2):
            if field.size ** len(one) <= 800:
                continue
            rank = slow_distance(field, one, other)
            things = spanned_things(field, slow_less(field, other, one))
            rows = spanned_rows(field.prime, len(one),
                                table_of(field, slow_less(field, other, one)))
            for first in range(rank + 1):
                found = all_between(field, one, other, first)
                self.assertEqual(len(found), between_count(field.prime, rank, first))
                self.assertEqual(list(found), sorted(set(found)))
                for word in found[::7]:
                    less = slow_less(field, word, one)
                    self.assertEqual(slow_rank(field, less), first)
                    self.assertEqual(slow_distance(field, word, other), rank - first)
                    self.assertTrue(all(thing in things for thing in less))
                    self.assertTrue(all(row in rows for row in table_of(field, less)))

    def test_560_words(self):
        found = all_between(SIXTEEN, (0, 0, 0, 0), (1, 2, 4, 8), 2)
        self.assertEqual(len(found), 560)
        self.assertTrue(all(slow_rank(SIXTEEN, word) == 2 for word in found))

    def test_edges(self):
        for field, one, other in couples(7):
            self.assertEqual(all_between(field, one, other, 0), (one,))
            rank = slow_distance(field, one, other)
            self.assertEqual(all_between(field, one, other, rank), (other,))
            self.takes_lists(all_between, field, one, other, rank // 2)

    def test_ways_lead_between(self):
        for field, one, other in couples(8):
            for first, word in enumerate(way_between(field, one, other)):
                self.assertIn(word, all_between(field, one, other, first))

    def test_half_way_between_members(self):
        """Just at half of an even distance a word is near to no member, and nothing is read."""
        for polylot in poly_lots(9):
            distance, field = polylot.distance, polylot.field
            if distance % 2 or polylot.size > 256:
                continue
            one, other = distance_of(polylot.as_lot()).couple
            for word in all_between(field, one, other, distance // 2)[:40]:
                self.assertEqual(nearest_members(polylot, word).rank, distance // 2)
                self.assertEqual(read_word(polylot, word), Far(distance // 2))
            middle = middle_word(field, one, other)
            self.assertEqual(read_word(polylot, middle), Far(distance // 2))

    def test_example(self):
        wanted = ((0, 2), (0, 3), (1, 0), (1, 1), (2, 2), (3, 0))
        self.assertEqual(all_between(FOUR, (0, 0), (1, 2), 1), wanted)
        lot = PolyLot(FOUR, (1, 2), 1)
        self.assertEqual(nearest_members(lot, (1, 0)).members, ((0, 0), (1, 2), (2, 3)))
        self.assertEqual(len(all_between(TWENTY_SEVEN, (0, 0, 0), (1, 3, 9), 1)), 117)


if __name__ == "__main__":
    unittest.main()
