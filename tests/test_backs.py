"""Points [9.9] and [9.10]: lots closed by things, meets of steps, points read back."""

import itertools
import unittest

from rankwords.backs import closed_by_things, meet_of_steps, points_of
from rankwords.closed import ClosedLot
from rankwords.errors import BadNumber, NotClosedByThings
from rankwords.joined import mixed, shortened, stepped_lot
from rankwords.likes import like_points, scaled_points
from rankwords.polylots import PolyLot
from tests.support import (Case, EIGHT, FIELDS, FOUR, NINE, NO_INTEGERS, SIXTEEN, TWENTY_SEVEN,
                           all_words, closed_samples, members_of, poly_lots,
                           random_closed, random_invertible, random_word, rng, slow_power)


def by_things(field, columns, words):
    """The least closed lot that holds all multiples, by things, of the words."""
    units = [field.prime ** place for place in range(field.degree)]
    return ClosedLot(field, columns, [[field.times(unit, thing) for thing in word]
                                      for word in words for unit in units])


def full_lot(field, columns):
    return by_things(field, columns, [[int(place == at) for at in range(columns)]
                                      for place in range(columns)])


def slow_closed(closed):
    """Whether every member times every thing is a member, gone through."""
    field, members = closed.field, set(members_of(closed))
    return all(tuple(field.times(thing, item) for item in word) in members
               for word in members for thing in range(field.size))


def slow_meet(closed, many):
    """The members of all of the lots stepped 0 to many - 1 times."""
    field, found = closed.field, None
    for times in range(many):
        power = field.prime ** (times % field.degree)
        stepped = {tuple(slow_power(field, thing, power) for thing in word)
                   for word in members_of(closed)}
        found = stepped if found is None else found & stepped
    return found


def slow_points(closed):
    """All points that begin with 1 and whose poly lot has just these members."""
    field, columns = closed.field, closed.columns
    found = []
    for rest in itertools.product(range(field.size), repeat=columns - 1):
        points = (1,) + rest
        if ClosedLot(field, 1, [[point] for point in points]).dimension == columns:
            for terms in range(1, columns + 1):
                if field.size ** terms == closed.size:
                    if PolyLot(field, points, terms).as_closed() == closed:
                        found.append(points)
    return found


class ClosedTest(Case):
    def test_samples(self):
        found = {True: 0, False: 0}
        chance = rng(1)
        for closed in closed_samples(1):
            if closed.size <= 729:
                self.assertIs(closed_by_things(closed), slow_closed(closed))
                found[closed_by_things(closed)] += 1
            words = [random_word(chance, closed.field, closed.columns) for _ in range(2)]
            lot = by_things(closed.field, closed.columns, words)
            self.assertIs(closed_by_things(lot), True)
            self.assertTrue(slow_closed(lot))
            found[True] += 1
        self.assertGreater(min(found.values()), 20)

    def test_poly_lots(self):
        for polylot in poly_lots(2):
            self.assertIs(closed_by_things(polylot.as_closed()), True)

    def test_edges(self):
        for field in FIELDS:
            for columns in range(1, field.degree + 1):
                self.assertIs(closed_by_things(ClosedLot(field, columns, [])), True)
                self.assertIs(closed_by_things(full_lot(field, columns)), True)
                one = ClosedLot(field, columns, [(1,) * columns])
                self.assertIs(closed_by_things(one), field.degree == 1)

    def test_all_but_one_multiple(self):
        """Closed by 1 and by 3 of the field of four things means by all; here by 1 alone."""
        self.assertIs(closed_by_things(ClosedLot(FOUR, 2, [(1, 2), (2, 3)])), True)
        self.assertIs(closed_by_things(ClosedLot(FOUR, 2, [(1, 2), (2, 2)])), False)
        # The sums of 1 and 4 are closed by no thing but 0 and 1.
        self.assertIs(closed_by_things(ClosedLot(SIXTEEN, 1, [[1], [4]])), False)
        # The things 0, 1, 6 and 7 are a field of their own within the sixteen.
        self.assertIs(closed_by_things(ClosedLot(SIXTEEN, 1, [[1], [6]])), False)


class MeetTest(Case):
    def test_members(self):
        for closed in closed_samples(3):
            if closed.size <= 243:
                for many in range(1, 9):
                    meet = meet_of_steps(closed, many)
                    self.assertIs(type(meet), ClosedLot)
                    self.assertEqual(set(members_of(meet)), slow_meet(closed, many))

    def test_poly_lots(self):
        for polylot in poly_lots(4):
            closed = polylot.as_closed()
            if polylot.terms == polylot.columns:
                self.assertTrue(all(meet_of_steps(closed, many) == closed for many in range(1, 9)))
                continue
            for many in range(1, 9):
                meet = meet_of_steps(closed, many)
                if many > polylot.terms:
                    self.assertEqual(meet.size, 1)
                else:
                    points = [polylot.field.stepped(point, many - 1) for point in polylot.points]
                    self.assertEqual(meet, PolyLot(polylot.field, points,
                                                   polylot.terms - many + 1).as_closed())

    def test_one(self):
        lot = ClosedLot(NINE, 2, [(1, 3), (4, 5)])
        self.assertEqual(meet_of_steps(lot, 1), lot)

    def test_refused(self):
        lot = ClosedLot(EIGHT, 2, [(1, 2)])
        for many in NO_INTEGERS + ("5", {1}, range(2), 0, -1, 9, 10 ** 59):
            self.refuses(BadNumber, {}, meet_of_steps, lot, many)
        meet_of_steps(lot, 8)


class PointsTest(Case):
    def test_poly_lots(self):
        for polylot in poly_lots(5, 3):
            points = points_of(polylot.as_closed())
            if polylot.terms == polylot.columns:
                wanted = tuple(polylot.field.prime ** place for place in range(polylot.columns))
                self.assertEqual(points, wanted)
            else:
                scaled = scaled_points(polylot, polylot.field.inverse(polylot.points[0]))
                self.assertEqual(points, scaled.points)
                other = PolyLot(polylot.field, points, polylot.terms)
                self.assertIsNotNone(like_points(polylot, other))
            self.assertEqual(PolyLot(polylot.field, points, polylot.terms).as_closed(),
                             polylot.as_closed())
            self.assertIs(type(points), tuple)

    def test_all_lots_of_one_word(self):
        """The multiples, by things, of every word of small fields."""
        found = {True: 0, False: 0}
        for field, columns in ((FOUR, 1), (FOUR, 2), (EIGHT, 2), (NINE, 2), (EIGHT, 3)):
            for word in all_words(field, columns):
                if word[0] in (0, 1):
                    lot = by_things(field, columns, [word])
                    points = points_of(lot)
                    if columns > 1:
                        self.assertEqual([points] if points else [], slow_points(lot))
                    found[points is not None] += 1
        self.assertGreater(min(found.values()), 30)

    def test_lots_of_two_words(self):
        chance, found = rng(6), {True: 0, False: 0}
        for field in (EIGHT, SIXTEEN, TWENTY_SEVEN):
            for _ in range(4):
                word = random_word(chance, field, 3)
                for other in (random_word(chance, field, 3),
                              [field.stepped(thing, 1) for thing in word]):
                    lot = by_things(field, 3, [word, other])
                    if lot.size == field.size ** 2:
                        points = points_of(lot)
                        self.assertEqual([points] if points else [], slow_points(lot))
                        found[points is not None] += 1
        self.assertGreater(min(found.values()), 2)

    def test_four_columns(self):
        """Lots of two and three words of four columns, poly lots and others."""
        chance, found = rng(7), {True: 0, False: 0}
        for _ in range(30):
            word = random_word(chance, SIXTEEN, 4)
            words = [word, [SIXTEEN.stepped(thing, 1) for thing in word],
                     [SIXTEEN.stepped(thing, 2) for thing in word]][:chance.choice((2, 3))]
            if chance.randrange(2):
                words[-1] = random_word(chance, SIXTEEN, 4)
            lot = by_things(SIXTEEN, 4, words)
            points = points_of(lot)
            found[points is not None] += 1
            if points is None:
                # Some points would be a word of the meet of all steps that fit.
                terms = lot.dimension // 4
                steps = slow_meet(lot, terms) if 0 < terms < 3 else set()
                self.assertTrue(all(ClosedLot(SIXTEEN, 1, [[thing] for thing in member]).dimension < 4
                                    for member in steps))
            else:
                self.assertEqual(points[0], 1)
                self.assertEqual(PolyLot(SIXTEEN, points, lot.dimension // 4).as_closed(), lot)
        self.assertGreater(min(found.values()), 3)

    def test_all_words_and_zero(self):
        for field in FIELDS:
            for columns in range(1, field.degree + 1):
                self.assertIsNone(points_of(ClosedLot(field, columns, [])))
                self.assertEqual(points_of(full_lot(field, columns)),
                                 tuple(field.prime ** place for place in range(columns)))

    def test_not_closed(self):
        for closed in closed_samples(8):
            if not closed_by_things(closed):
                self.refuses(NotClosedByThings, {}, points_of, closed)
        self.refuses(NotClosedByThings, {}, points_of, ClosedLot(EIGHT, 1, [[1], [2]]))

    def test_behind_changes(self):
        """Mixed, stepped and shortened poly lots are told by points again."""
        chance = rng(9)
        for polylot in poly_lots(9):
            closed = polylot.as_closed()
            table = random_invertible(chance, polylot.field.prime, polylot.columns)
            for lot in (mixed(closed, table), stepped_lot(closed, 1)):
                self.assertEqual(PolyLot(polylot.field, points_of(lot), polylot.terms).as_closed(), lot)
            if polylot.columns > 1:
                lot = shortened(closed, 0)
                self.assertEqual(points_of(lot) is None, polylot.terms == 1)

    def test_example(self):
        self.assertEqual(points_of(PolyLot(EIGHT, (2, 4, 3), 2).as_closed()), (1, 2, 4))
        self.assertIsNone(points_of(by_things(EIGHT, 3, [(1, 2, 3)])))
        self.assertIsNone(points_of(by_things(EIGHT, 3, [(1, 2, 0)])))

    def test_lots_stay(self):
        lot = random_closed(rng(10), NINE, 2, 3)
        before = lot.basis, lot.size
        closed_by_things(lot)
        meet_of_steps(lot, 3)
        self.assertEqual((lot.basis, lot.size), before)


if __name__ == "__main__":
    unittest.main()
