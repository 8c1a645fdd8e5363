"""Point [4.9]: evenness of lots."""

import itertools
import unittest

from rankwords.bounds import is_met
from rankwords.closed import rest_lot
from rankwords.counts import couple_counts
from rankwords.errors import BadSizes, NoLot
from rankwords.evens import even_heads, uneven_space
from rankwords.lots import Lot, distance_of
from rankwords.polylots import PolyLot
from rankwords.restcounts import completed_counts, turned_counts
from rankwords.spaces import all_spaces
from rankwords.tables import table_of, times_table, word_sum
from tests.support import (Case, EIGHT, FIELDS, FOUR, NINE, NO_INTEGERS, SIXTEEN, TWO,
                           closed_samples, lot_samples, poly_lots, random_invertible, random_word,
                           rng, slow_distance, slow_less, spanned_rows, tally)


def slow_uneven(lot, heads):
    """The first space by which some heap has not its share, straight from the words of the point."""
    field, columns = lot.field, lot.columns
    for rows in all_spaces(field.prime, columns, columns - heads):
        inside = spanned_rows(field.prime, columns, rows)
        for one in lot:
            heap = sum(all(row in inside for row in table_of(field, slow_less(field, one, other)))
                       for other in lot)
            if heap * field.size ** heads != len(lot):
                return rows
    return None


def even_lots(chance):
    """Lots that are even for some things, most of them not closed."""
    for polylot in poly_lots(20):
        if polylot.size <= 128:
            field, words = polylot.field, polylot.as_lot().members
            moved = random_word(chance, field, polylot.columns)
            yield Lot(field, polylot.columns, [word_sum(field, moved, word) for word in words])
            both = {word_sum(field, moved, word) for word in words} | set(words)
            yield Lot(field, polylot.columns, list(both))
            yield Lot(field, polylot.columns, words[1:] or words)


def samples(seed):
    yield from lot_samples(seed, 16, 2)
    yield from even_lots(rng(seed))
    for closed in closed_samples(seed, 5, 1):
        yield closed.as_lot()


class EvenTest(Case):
    def test_gone_through(self):
        for lot in samples(1):
            if lot.size <= 64:
                spaces = [slow_uneven(lot, heads) for heads in range(lot.columns + 1)]
                self.assertIsNone(spaces[0])
                even = [heads for heads, space in enumerate(spaces) if space is None]
                self.assertEqual(even_heads(lot), max(even))
                self.assertEqual(even, list(range(max(even) + 1)))
                for heads, space in enumerate(spaces):
                    self.assertEqual(uneven_space(lot, heads), space)

    def test_turned_counts(self):
        for lot in samples(2):
            field = lot.field
            turned = turned_counts(field.prime, field.degree, lot.columns, couple_counts(lot))
            heads = even_heads(lot)
            self.assertFalse(any(turned[1:heads + 1]))
            self.assertTrue(heads == lot.columns or turned[heads + 1])

    def test_bound(self):
        for lot in samples(3):
            most = lot.columns - distance_of(lot).distance + 1
            heads = even_heads(lot)
            self.assertLessEqual(heads, most)
            self.assertEqual(heads == most, is_met(lot))

    def test_closed_lots(self):
        for closed in closed_samples(4, 7, 3):
            rest = rest_lot(closed)
            if closed.size <= 256 and rest.size <= 256:
                self.assertEqual(even_heads(closed.as_lot()),
                                 distance_of(rest.as_lot()).distance - 1)

    def test_poly_lots(self):
        for polylot in poly_lots(5):
            if polylot.size <= 256:
                lot = polylot.as_lot()
                self.assertEqual(even_heads(lot), polylot.terms)
                self.assertIsNone(uneven_space(lot, polylot.terms))
                if polylot.terms < polylot.columns:
                    rows = next(all_spaces(polylot.field.prime, polylot.columns,
                                           polylot.columns - polylot.terms - 1))
                    self.assertEqual(uneven_space(lot, polylot.terms + 1), rows)

    def test_heads_of_mixed_lots(self):
        """However the columns are mixed, every head stands in equally many members."""
        chance = rng(6)
        for lot in samples(6):
            field, heads = lot.field, even_heads(lot)
            for _ in range(3):
                table = random_invertible(chance, field.prime, lot.columns)
                mixed = [times_table(field, word, table) for word in lot]
                for many in range(heads + 1):
                    found = [word[:many] for word in mixed]
                    self.assertEqual({found.count(head) for head in found},
                                     {lot.size // field.size ** many})

    def test_counts_from_each_member(self):
        """A lot of much evenness has the same counts from every member, told by the first ones."""
        for lot in itertools.chain(even_lots(rng(7)), samples(7)):
            field, columns, heads = lot.field, lot.columns, even_heads(lot)
            for last in range(max(columns - heads - 1, 0), columns + 1):
                for one in lot.members[:5]:
                    counts = tally([slow_distance(field, one, other) for other in lot], columns)
                    self.assertEqual(completed_counts(field.prime, field.degree, columns, lot.size,
                                                      counts[:last + 1]), counts)

    def test_not_enough_first_counts(self):
        lot = PolyLot(EIGHT, (1, 2, 4), 1).as_lot()
        self.assertEqual(even_heads(lot), 1)
        self.refuses(NoLot, {"rank": 1}, completed_counts, 2, 3, 3, 8, (1,))
        self.assertEqual(completed_counts(2, 3, 3, 8, (1, 0)), (1, 0, 0, 7))


class EdgesTest(Case):
    def test_one_member(self):
        for field in FIELDS:
            for columns in range(1, field.degree + 1):
                lot = Lot(field, columns, [(1,) * columns])
                self.assertEqual(even_heads(lot), 0)
                self.assertIsNone(uneven_space(lot, 0))
                for heads in range(1, columns + 1):
                    self.assertEqual(uneven_space(lot, heads),
                                     next(all_spaces(field.prime, columns, columns - heads)))

    def test_all_words(self):
        for field, columns in ((TWO, 1), (FOUR, 2), (NINE, 2), (SIXTEEN, 2), (EIGHT, 1)):
            lot = Lot(field, columns, list(itertools.product(range(field.size), repeat=columns)))
            self.assertEqual(even_heads(lot), columns)
            for heads in range(columns + 1):
                self.assertIsNone(uneven_space(lot, heads))

    def test_a_later_space(self):
        """The space is not just the first one of its dimension."""
        lot = Lot(FOUR, 2, [(x, 0) for x in range(4)])
        self.assertEqual(uneven_space(lot, 1), ((1, 0),))
        lot = Lot(FOUR, 2, [(0, x) for x in range(4)])
        self.assertEqual(uneven_space(lot, 1), ((0, 1),))
        lot = Lot(FOUR, 2, [(x, x) for x in range(4)])
        self.assertEqual(uneven_space(lot, 1), ((1, 1),))

    def test_refused(self):
        lot = Lot(EIGHT, 2, [(1, 2)])
        for heads in NO_INTEGERS + (-1, 3, 10 ** 59, -10 ** 59):
            self.refuses(BadSizes, {"what": "part"}, uneven_space, lot, heads)

    def test_example(self):
        self.assertEqual(even_heads(PolyLot(EIGHT, (1, 2, 4), 1).as_lot()), 1)


if __name__ == "__main__":
    unittest.main()
