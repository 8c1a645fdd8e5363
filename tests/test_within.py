"""Point [4.8]: members within spaces of rows and of things."""

import unittest

from rankwords.closed import ClosedLot, rest_lot
from rankwords.counting import space_count
from rankwords.counts import rank_counts
from rankwords.errors import BadRow, BadThing
from rankwords.polylots import PolyLot
from rankwords.spaces import all_spaces, contrary
from rankwords.tables import table_of
from rankwords.within import members_bearing, members_within, things_within
from tests.support import (Case, EIGHT, FOUR, NINE, NO_INTEGERS, NO_SEQUENCES, SIXTEEN,
                           TWENTY_SEVEN, closed_samples, members_of, poly_lots, random_closed,
                           random_rows, random_word, rng, spanned_rows, spanned_things)

LOT = ClosedLot(EIGHT, 3, [(1, 2, 4), (2, 4, 3), (4, 3, 6)])


def slow_within(closed, rows):
    inside = spanned_rows(closed.field.prime, closed.columns, rows)
    return sum(all(row in inside for row in table_of(closed.field, word))
               for word in members_of(closed))


def slow_bearing(closed, rows):
    field = closed.field
    inside = spanned_rows(field.prime, closed.columns, rows)
    return sum(spanned_rows(field.prime, closed.columns, table_of(field, word)) == inside
               for word in members_of(closed))


def slow_things_within(closed, things):
    inside = spanned_things(closed.field, things)
    return sum(all(thing in inside for thing in word) for word in members_of(closed))


def all_row_spaces(closed):
    for dimension in range(closed.columns + 1):
        yield from all_spaces(closed.field.prime, closed.columns, dimension)


def great_lots(seed):
    """Closed lots of more than 256 members, too."""
    chance = rng(seed)
    for field, columns in ((EIGHT, 3), (NINE, 2), (TWENTY_SEVEN, 3), (SIXTEEN, 4), (SIXTEEN, 3)):
        for most in (4, 8, 16):
            yield random_closed(chance, field, columns, most)


class RowsTest(Case):
    def test_gone_through(self):
        chance = rng(1)
        for closed in closed_samples(1, 5, 2):
            for _ in range(4):
                rows = random_rows(chance, closed.field.prime, closed.columns, 4)
                self.assertEqual(members_within(closed, rows), slow_within(closed, rows))
                self.assertEqual(members_within(closed, [list(row) for row in rows]),
                                 slow_within(closed, rows))

    def test_many_rows(self):
        rows = [(1, 0, 0)] * 30 + [[0, 1, 0]] * 30
        self.assertEqual(members_within(LOT, rows), slow_within(LOT, rows))
        self.assertEqual(members_bearing(LOT, rows), slow_bearing(LOT, rows))

    def test_edges(self):
        for closed in closed_samples(2):
            units = [tuple(int(at == place) for at in range(closed.columns))
                     for place in range(closed.columns)]
            self.assertEqual(members_within(closed, ()), 1)
            self.assertEqual(members_within(closed, [(0,) * closed.columns]), 1)
            self.assertEqual(members_within(closed, units), closed.size)

    def test_rest_lots(self):
        """What lies within U tells what of the rest lot lies within its contrary."""
        for closed in list(closed_samples(3, 9, 1)) + list(great_lots(3)):
            field, columns = closed.field, closed.columns
            rest = rest_lot(closed)
            for rows in all_row_spaces(closed):
                left = members_within(closed, rows) * field.size ** (columns - len(rows))
                others = members_within(rest, contrary(field.prime, columns, rows))
                self.assertEqual(left, closed.size * others)

    def test_met_lots(self):
        for polylot in poly_lots(4):
            closed, field = polylot.as_closed(), polylot.field
            for rows in all_row_spaces(closed):
                wanted = field.size ** max(len(rows) - polylot.distance + 1, 0)
                self.assertEqual(members_within(closed, rows), wanted)

    def test_refused(self):
        for function in (members_within, members_bearing):
            for rows in NO_SEQUENCES:
                self.refuses(BadRow, {"index": -1}, function, LOT, rows)
            for row in NO_SEQUENCES + ((), (1, 0), (1, 0, 0, 0)):
                self.refuses(BadRow, {"index": 0}, function, LOT, [row, None])
                self.refuses(BadRow, {"index": 2}, function, LOT, ((1, 0, 0), [0, 0, 0], row))
            for digit in NO_INTEGERS + (-1, 2):
                self.refuses(BadRow, {"index": 1}, function, LOT, [(1, 1, 1), (0, digit, 0)])
        self.takes_lists(lambda rows: members_within(LOT, rows), ((1, 0, 1), (0, 1, 1)))
        self.takes_lists(lambda rows: members_bearing(LOT, rows), ((1, 0, 1), (0, 1, 1)))


class ThingsTest(Case):
    def test_gone_through(self):
        chance = rng(5)
        for closed in closed_samples(5, 5, 2):
            for _ in range(4):
                things = random_word(chance, closed.field, chance.randrange(5))
                wanted = slow_things_within(closed, things)
                self.assertEqual(things_within(closed, things), wanted)
                self.assertEqual(things_within(closed, list(things)), wanted)

    def test_edges(self):
        for closed in closed_samples(6):
            field = closed.field
            units = [field.prime ** place for place in range(field.degree)]
            self.assertEqual(things_within(closed, ()), 1)
            self.assertEqual(things_within(closed, [0]), 1)
            self.assertEqual(things_within(closed, units * (16 // len(units))), closed.size)

    def test_rest_lots(self):
        for closed in list(closed_samples(7, 9, 1)) + list(great_lots(7)):
            field, columns = closed.field, closed.columns
            rest = rest_lot(closed)
            for dimension in range(field.degree + 1):
                for rows in all_spaces(field.prime, field.degree, dimension):
                    outside = contrary(field.prime, field.degree, rows)
                    left = things_within(closed, [field.thing_of(row) for row in rows])
                    left = left * field.prime ** (columns * (field.degree - dimension))
                    others = things_within(rest, [field.thing_of(row) for row in outside])
                    self.assertEqual(left, closed.size * others)

    def test_refused(self):
        for things in NO_SEQUENCES + ((0,) * 17, [None] * 17):
            self.refuses(BadThing, {"index": -1}, things_within, LOT, things)
        for thing in NO_INTEGERS + (-1, 8):
            self.refuses(BadThing, {"index": 0}, things_within, LOT, [thing, None])
            self.refuses(BadThing, {"index": 15}, things_within, LOT, (1,) * 15 + (thing,))
        self.takes_lists(lambda things: things_within(LOT, things), (1, 2))


class BearingTest(Case):
    def test_gone_through(self):
        chance = rng(8)
        for closed in closed_samples(8, 5, 2):
            for _ in range(4):
                rows = random_rows(chance, closed.field.prime, closed.columns, 4)
                self.assertEqual(members_bearing(closed, rows), slow_bearing(closed, rows))

    def test_all_words(self):
        for field, columns in ((FOUR, 2), (EIGHT, 3), (NINE, 2)):
            closed = rest_lot(ClosedLot(field, columns, ()))
            for rows in all_row_spaces(closed):
                self.assertEqual(members_bearing(closed, rows), slow_bearing(closed, rows))

    def test_counts(self):
        """What all spaces of one dimension are borne by sums to the count of that rank."""
        for closed in great_lots(9):
            counts = [0] * (closed.columns + 1)
            for rows in all_row_spaces(closed):
                counts[len(rows)] += members_bearing(closed, rows)
            self.assertEqual(tuple(counts), rank_counts(closed))

    def test_met_lots(self):
        for polylot in poly_lots(10):
            closed, field = polylot.as_closed(), polylot.field
            counts = rank_counts(closed)
            for rows in all_row_spaces(closed):
                spaces = space_count(field.prime, polylot.columns, len(rows))
                self.assertEqual(members_bearing(closed, rows) * spaces, counts[len(rows)])
                if len(rows) == polylot.distance:
                    self.assertEqual(members_bearing(closed, rows), field.size - 1)

    def test_edges(self):
        for closed in closed_samples(11):
            self.assertEqual(members_bearing(closed, ()), 1)
            self.assertEqual(members_bearing(closed, [(0,) * closed.columns]), 1)

    def test_example(self):
        """The example at the end of part 4: seven members of rank 3."""
        closed = PolyLot(EIGHT, (1, 2, 4), 1).as_closed()
        self.assertEqual(closed, LOT)
        units = ((1, 0, 0), (0, 1, 0), (0, 0, 1))
        self.assertEqual(members_bearing(closed, units), 7)
        self.assertEqual(members_within(closed, units), 8)
        self.assertEqual(members_within(closed, units[:2]), 1)
        self.assertEqual(things_within(closed, (1, 2)), 1)
        self.assertEqual(things_within(closed, (1, 2, 4)), 8)


if __name__ == "__main__":
    unittest.main()
