"""Points [9.7] and [9.8]: poly lots struck, shortened, mixed, stepped, scaled, and compared."""

import itertools
import unittest

from rankwords.closed import ClosedLot
from rankwords.errors import BadTable, BadTerms, BadThing, NoColumn, NotInvertible, ZeroThing
from rankwords.joined import mixed, shortened, stepped_lot, struck
from rankwords.likes import (like_points, mixed_points, same_lot, scaled_points, shortened_points,
                             stepped_points, struck_points)
from rankwords.polylots import PolyLot
from tests.support import (Case, EIGHT, FIELDS, FOUR, NINE, NO_INTEGERS, NO_SEQUENCES, SIXTEEN,
                           TWENTY_SEVEN, members_of, poly_lots, random_invertible, random_points, rng,
                           slow_power, slow_value)

LOT = PolyLot(EIGHT, (1, 2, 4), 2)


def couples(seed, many):
    """Random couples of poly lots of one field, columns and terms, some of them alike."""
    chance = rng(seed)
    for field in FIELDS:
        for columns in range(1, field.degree + 1):
            for terms in range(1, columns + 1):
                for _ in range(many):
                    one, other = (random_points(chance, field, columns) for _ in range(2))
                    if chance.randrange(2):
                        thing = chance.randrange(1, field.size)
                        other = tuple(field.times(thing, point) for point in one)
                    yield PolyLot(field, one, terms), PolyLot(field, other, terms)


def all_points(field, columns):
    """All tuples of so many things of which none is a sum of multiples of those before it."""
    for points in itertools.product(range(field.size), repeat=columns):
        lot = ClosedLot(field, 1, [[point] for point in points])
        if lot.dimension == columns:
            yield points


class MadeTest(Case):
    def same_members(self, polylot, closed):
        self.assertIs(type(polylot), PolyLot)
        self.assertEqual(polylot.as_closed(), closed)
        if closed.size <= 81:
            members = {tuple(slow_value(closed.field, polylot.poly_for(word), point)
                             for point in polylot.points) for word in members_of(closed)}
            self.assertEqual(members, set(members_of(closed)))

    def test_struck(self):
        for polylot in poly_lots(1):
            for column in range(polylot.columns):
                if polylot.columns == 1:
                    self.refuses(NoColumn, {}, struck_points, polylot, column)
                    continue
                lot = struck_points(polylot, column)
                self.assertEqual(lot.points, polylot.points[:column] + polylot.points[column + 1:])
                terms = polylot.terms if polylot.terms < polylot.columns else polylot.terms - 1
                self.assertEqual(lot.terms, terms)
                self.same_members(lot, struck(polylot.as_closed(), column))

    def test_shortened(self):
        for polylot in poly_lots(2):
            field = polylot.field
            for column in range(polylot.columns):
                if polylot.columns == 1:
                    self.refuses(NoColumn, {}, shortened_points, polylot, column)
                    continue
                if polylot.terms == 1:
                    self.refuses(BadTerms, {}, shortened_points, polylot, column)
                    self.assertEqual(shortened(polylot.as_closed(), column).size, 1)
                    continue
                lot, h = shortened_points(polylot, column), polylot.points[column]
                power = slow_power(field, h, field.prime - 1)
                self.assertEqual(lot.points, tuple(
                    field.minus(slow_power(field, g, field.prime), field.times(g, power))
                    for g in polylot.points[:column] + polylot.points[column + 1:]))
                self.assertEqual(lot.terms, polylot.terms - 1)
                self.same_members(lot, shortened(polylot.as_closed(), column))

    def test_mixed(self):
        chance = rng(3)
        for polylot in poly_lots(3, 2):
            table = random_invertible(chance, polylot.field.prime, polylot.columns)
            lot = mixed_points(polylot, table)
            self.assertEqual(lot.terms, polylot.terms)
            self.same_members(lot, mixed(polylot.as_closed(), table))
            self.takes_lists(mixed_points, polylot, table)

    def test_stepped(self):
        for polylot in poly_lots(4):
            field = polylot.field
            for times in range(-field.degree, field.degree + 1):
                lot = stepped_points(polylot, times)
                power = field.prime ** (times % field.degree)
                self.assertEqual(lot.points, tuple(slow_power(field, point, power)
                                                   for point in polylot.points))
                self.assertEqual(lot.terms, polylot.terms)
                self.same_members(lot, stepped_lot(polylot.as_closed(), times))
                self.assertEqual(stepped_points(polylot, times - field.degree * 10 ** 28), lot)

    def test_scaled(self):
        for polylot in poly_lots(5):
            field = polylot.field
            for thing in range(1, field.size):
                lot = scaled_points(polylot, thing)
                self.assertEqual(lot.points, tuple(field.times(thing, point)
                                                   for point in polylot.points))
                self.assertEqual(lot.terms, polylot.terms)
                self.assertEqual(lot.as_closed(), polylot.as_closed())

    def test_example(self):
        self.assertEqual(LOT.size, 64)
        self.assertEqual(shortened_points(LOT, 0), PolyLot(EIGHT, (6, 2), 1))
        self.assertEqual(struck_points(LOT, 0), PolyLot(EIGHT, (2, 4), 2))
        self.assertEqual(struck(LOT.as_closed(), 0).size, 64)
        self.assertEqual(scaled_points(LOT, 2).points, (2, 4, 3))

    def test_columns(self):
        for function in (struck_points, shortened_points):
            for column in NO_INTEGERS + NO_SEQUENCES + (-1, 3, 10 ** 59):
                self.refuses(NoColumn, {}, function, LOT, column)
                self.refuses(NoColumn, {}, function, PolyLot(EIGHT, (1, 2, 4), 1), column)
            self.refuses(NoColumn, {}, function, PolyLot(EIGHT, (3,), 1), 0)
        self.refuses(BadTerms, {}, shortened_points, PolyLot(EIGHT, (1, 2, 4), 1), 2)

    def test_tables(self):
        good = ((0, 1, 0), (0, 0, 1), (1, 0, 0))
        for table in NO_SEQUENCES + ((), good[:2], good + good[:1]):
            self.refuses(BadTable, {}, mixed_points, LOT, table)
        for row in NO_SEQUENCES + ((), (1, 0), (1, 0, 0, 0), (1, 0, 2), (True, 0, 0)):
            self.refuses(BadTable, {}, mixed_points, LOT, [(0, 0, 0), (0, 0, 0), row])
        self.refuses(NotInvertible, {}, mixed_points, LOT, good[:2] + ((0, 1, 1),))
        self.assertEqual(mixed_points(LOT, good).points, (4, 1, 2))

    def test_things(self):
        for thing in NO_INTEGERS + (-1, 8, 10 ** 59):
            self.refuses(BadThing, {"index": 0}, scaled_points, LOT, thing)
        self.refuses(ZeroThing, {}, scaled_points, LOT, 0)

    def test_lots_stay(self):
        before = LOT.points, LOT.terms, LOT.size
        struck_points(LOT, 0)
        shortened_points(LOT, 1)
        mixed_points(LOT, [[1, 1, 0], [0, 1, 0], [0, 0, 1]])
        stepped_points(LOT, 1)
        scaled_points(LOT, 5)
        self.assertEqual((LOT.points, LOT.terms, LOT.size), before)


class LikeTest(Case):
    def test_couples(self):
        found = {True: 0, False: 0}
        for one, other in couples(6, 6):
            field = one.field
            fits = [thing for thing in range(field.size)
                    if all(field.times(thing, first) == second
                           for first, second in zip(one.points, other.points))]
            thing = like_points(one, other)
            self.assertEqual([thing] if thing is not None else [], fits)
            same = one.as_closed() == other.as_closed()
            if one.size <= 729:
                both = [set(members_of(lot.as_closed())) for lot in (one, other)]
                self.assertEqual(both[0] == both[1], same)
            self.assertIs(same_lot(one, other), same)
            self.assertEqual(same, one.terms == one.columns or thing is not None)
            found[same] += 1
        self.assertGreater(min(found.values()), 20)

    def test_gone_through(self):
        """All poly lots of small fields, each with each."""
        for field in (FOUR, NINE):
            for columns in range(1, 3):
                for terms in range(1, columns + 1):
                    lots = [PolyLot(field, points, terms) for points in all_points(field, columns)]
                    lots = lots[:30] + lots[-10:]
                    closed = [lot.as_closed() for lot in lots]
                    for one, first in zip(lots, closed):
                        for other, second in zip(lots, closed):
                            self.assertIs(same_lot(one, other), first == second)

    def test_scaled(self):
        for polylot in poly_lots(7):
            for thing in range(1, polylot.field.size):
                other = scaled_points(polylot, thing)
                self.assertEqual(like_points(polylot, other), thing)
                self.assertEqual(like_points(other, polylot), polylot.field.inverse(thing))
                self.assertIs(same_lot(polylot, other), True)

    def test_full_lots(self):
        """With as many terms as columns all words are members, whatever the points."""
        one, other = PolyLot(EIGHT, (1, 2, 4), 3), PolyLot(EIGHT, (3, 1, 4), 3)
        self.assertIsNone(like_points(one, other))
        self.assertIs(same_lot(one, other), True)
        self.assertIs(same_lot(PolyLot(EIGHT, (1, 2, 4), 2), PolyLot(EIGHT, (3, 1, 4), 2)), False)

    def test_one_column(self):
        one, other = PolyLot(TWENTY_SEVEN, (5,), 1), PolyLot(TWENTY_SEVEN, (20,), 1)
        self.assertEqual(TWENTY_SEVEN.times(like_points(one, other), 5), 20)
        self.assertIs(same_lot(one, other), True)

    def test_unlike(self):
        for other in (PolyLot(SIXTEEN, (1, 2, 4), 2), PolyLot(EIGHT, (1, 2), 2),
                      PolyLot(EIGHT, (1, 2, 4), 1), PolyLot(EIGHT, (1, 2, 4), 3),
                      PolyLot(TWENTY_SEVEN, (1, 3, 9), 2)):
            for one, two in ((LOT, other), (other, LOT)):
                self.assertIsNone(like_points(one, two))
                self.assertIs(same_lot(one, two), False)
        full = PolyLot(EIGHT, (1, 2), 2)
        self.assertIs(same_lot(full, PolyLot(EIGHT, (1, 2, 4), 3)), False)
        self.assertIs(same_lot(full, PolyLot(SIXTEEN, (1, 2), 2)), False)
        self.assertIs(same_lot(full, PolyLot(EIGHT, (1, 2), 1)), False)

    def test_itself(self):
        for polylot in poly_lots(8):
            self.assertEqual(like_points(polylot, polylot), 1)
            self.assertIs(same_lot(polylot, polylot), True)

    def test_other_order(self):
        """The same points at other columns are another lot, but for lots of all words."""
        self.assertIsNone(like_points(LOT, PolyLot(EIGHT, (2, 1, 4), 2)))
        self.assertIs(same_lot(LOT, PolyLot(EIGHT, (2, 1, 4), 2)), False)


if __name__ == "__main__":
    unittest.main()
