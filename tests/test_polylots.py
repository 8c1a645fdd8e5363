"""Points [3.9] and [3.10], and the example at the end of part 3."""

import inspect
import itertools
import unittest

from rankwords.bounds import bound_of, is_met, member_with_head
from rankwords.closed import ClosedLot, rest_lot
from rankwords.errors import (BadPoints, BadPoly, BadTerms, BadWord, NotApart, NotMember, TooMany)
from rankwords.lots import Lot, distance_of
from rankwords.polylots import PolyLot
from rankwords.tables import digits_of_word
from tests.support import (Case, EIGHT, FIELDS, FOUR, NINE, NO_INTEGERS, NO_SEQUENCES, SIXTEEN,
                           TWENTY_SEVEN, TWO, all_polys, all_words, random_points, random_poly,
                           rng, slow_value, spanned_things)


def samples(seed, many=2):
    chance = rng(seed)
    for field in FIELDS:
        for columns in range(1, field.degree + 1):
            for terms in range(1, columns + 1):
                for _ in range(many):
                    yield field, random_points(chance, field, columns), terms


class MakingTest(Case):
    def test_attributes(self):
        for field, points, terms in samples(1):
            lot = PolyLot(field, list(points), terms)
            columns = len(points)
            self.assertEqual((lot.field, lot.points, lot.columns, lot.terms),
                             (field, points, columns, terms))
            self.assertIs(type(lot.points), tuple)
            self.assertEqual(lot.distance, columns - terms + 1)
            self.assertEqual(lot.size, field.prime ** (field.degree * terms))

    def test_copies(self):
        points = [1, 2]
        lot = PolyLot(FOUR, points, 1)
        points[0] = 3
        self.assertEqual(lot.points, (1, 2))
        self.assertEqual(lot.word_for((1,)), (1, 2))

    def test_refused_points(self):
        for points in NO_SEQUENCES + ((), (1, 2, 3), [9] * 3):
            self.refuses(BadPoints, {"index": -1}, PolyLot, FOUR, points, None)
        for thing in NO_INTEGERS + (-1, 8):
            self.refuses(BadPoints, {"index": 0}, PolyLot, EIGHT, (thing, None), None)
            self.refuses(BadPoints, {"index": 2}, PolyLot, EIGHT, [0, 0, thing], None)

    def test_not_apart(self):
        for field in (FOUR, EIGHT, NINE):
            for points in all_words(field, 2):
                if points[0] == 0:
                    self.refuses(NotApart, {"index": 0}, PolyLot, field, points, None)
                elif points[1] in spanned_things(field, points[:1]):
                    self.refuses(NotApart, {"index": 1}, PolyLot, field, points, 9)
        self.refuses(NotApart, {"index": 2}, PolyLot, SIXTEEN, (1, 2, 3, 3), 0)
        self.refuses(NotApart, {"index": 3}, PolyLot, SIXTEEN, (1, 2, 4, 7), 0)

    def test_terms(self):
        for terms in NO_INTEGERS + (0, -1, 3, 10 ** 59):
            self.refuses(BadTerms, {}, PolyLot, EIGHT, (1, 2), terms)
        self.refuses(BadTerms, {}, PolyLot, TWO, (1,), 2)

    def test_equal(self):
        lot = PolyLot(FOUR, (1, 2), 1)
        self.assertEqual(lot, PolyLot(FOUR, [1, 2], 1))
        for other in (PolyLot(FOUR, (2, 1), 1), PolyLot(FOUR, (1, 2), 2), PolyLot(EIGHT, (1, 2), 1),
                      PolyLot(FOUR, (2, 3), 1), lot.as_closed(), lot.as_lot(), None, (1, 2)):
            self.assertFalse(lot == other)
            self.assertTrue(lot != other)
        # The points times a thing have the same members.
        self.assertEqual(PolyLot(FOUR, (2, 3), 1).as_closed(), lot.as_closed())


class MembersTest(Case):
    def test_all_words(self):
        for field, points, terms in samples(2, 1):
            columns = len(points)
            if field.size ** columns > 800:
                continue
            lot = PolyLot(field, points, terms)
            polys = {tuple(slow_value(field, poly, x) for x in points): poly
                     for poly in all_polys(field, terms)}
            self.assertEqual(len(polys), lot.size)
            for word in all_words(field, columns):
                self.assertIs(lot.holds(word), word in polys)
                if word in polys:
                    self.assertEqual(lot.poly_for(list(word)), polys[word])
                    self.assertEqual(lot.word_for(polys[word]), word)
                else:
                    self.refuses(NotMember, {}, lot.poly_for, word)
            self.check_whole(lot, sorted(polys))

    def check_whole(self, lot, words):
        if lot.size > 256:
            self.refuses(TooMany, {"size": lot.size}, lambda: list(lot.all_members()))
            self.refuses(TooMany, {"size": lot.size}, lambda: next(lot.all_members()))
            self.refuses(TooMany, {"size": lot.size}, lot.as_lot)
        else:
            self.assertTrue(inspect.isgenerator(lot.all_members()))
            self.assertEqual(list(lot.all_members()), words)
            self.assertEqual(lot.as_lot(), Lot(lot.field, lot.columns, words))
        closed = lot.as_closed()
        self.assertIs(type(closed), ClosedLot)
        self.assertEqual((closed.field, closed.columns, closed.size),
                         (lot.field, lot.columns, lot.size))
        self.assertTrue(all(closed.holds(word) for word in words))

    def test_lots_of_any_size(self):
        chance = rng(3)
        for field, points, terms in samples(3):
            lot = PolyLot(field, points, terms)
            closed = lot.as_closed()
            self.assertEqual(closed.size, lot.size)
            for _ in range(10):
                poly = random_poly(chance, field, terms)
                word = tuple(slow_value(field, poly, x) for x in points)
                self.assertEqual(lot.word_for(poly), word)
                self.assertEqual(lot.poly_for(word), poly)
                self.assertTrue(lot.holds(word) and closed.holds(word))
                further = poly + (0,) * (terms - len(poly)) + (1,)
                if terms < len(points):
                    word = tuple(slow_value(field, further, x) for x in points)
                    self.assertFalse(lot.holds(word) or closed.holds(word))
                    self.refuses(NotMember, {}, lot.poly_for, word)
        self.assertEqual(PolyLot(SIXTEEN, (1, 2, 4, 8), 4).as_closed().size, 65536)

    def test_size_at_the_limit(self):
        self.assertEqual(PolyLot(SIXTEEN, (1, 2, 4, 8), 2).as_lot().size, 256)
        self.assertEqual(len(list(PolyLot(SIXTEEN, (1, 2, 4, 8), 2).all_members())), 256)
        self.refuses(TooMany, {"size": 4096}, PolyLot(SIXTEEN, (1, 2, 4, 8), 3).as_lot)
        self.refuses(TooMany, {"size": 512}, PolyLot(EIGHT, (1, 2, 4), 3).as_lot)
        self.refuses(TooMany, {"size": 729}, PolyLot(TWENTY_SEVEN, (1, 3), 2).as_lot)

    def test_distance_and_met(self):
        for field, points, terms in samples(4, 1):
            lot = PolyLot(field, points, terms)
            if lot.size <= 256:
                members = lot.as_lot()
                self.assertEqual(distance_of(members).distance, lot.distance)
                self.assertTrue(is_met(members))
                self.assertEqual(bound_of(field, lot.columns, lot.distance), lot.size)


class RefusedTest(Case):
    def test_polys(self):
        lot = PolyLot(EIGHT, (1, 2, 4), 2)
        for poly in NO_SEQUENCES + ((1, 2, 3), [9] * 3, (0, 0, 1)):
            self.refuses(BadPoly, {"index": -1}, lot.word_for, poly)
        for thing in NO_INTEGERS + (-1, 8):
            self.refuses(BadPoly, {"index": 0}, lot.word_for, (thing, 0))
            self.refuses(BadPoly, {"index": 1}, lot.word_for, [0, thing])
        self.refuses(BadPoly, {"index": 1}, lot.word_for, (1, 0))
        self.assertEqual(lot.word_for(()), (0, 0, 0))

    def test_words(self):
        lot = PolyLot(EIGHT, (1, 2), 1)
        for function in (lot.poly_for, lot.holds):
            for word in NO_SEQUENCES + ((), (1,), (1, 2, 3)):
                self.refuses(BadWord, {"index": -1}, function, word)
            for thing in NO_INTEGERS + (-1, 8):
                self.refuses(BadWord, {"index": 0}, function, (thing, None))
                self.refuses(BadWord, {"index": 1}, function, [1, thing])

    def test_lists(self):
        lot = PolyLot(EIGHT, (1, 2), 1)
        self.takes_lists(lot.word_for, (3,))
        self.takes_lists(lot.poly_for, (3, 6))
        self.takes_lists(lot.holds, (3, 6))


class ExampleTest(Case):
    def test_example(self):
        lot = PolyLot(FOUR, (1, 2), 1)
        self.assertEqual(list(lot.all_members()), [(0, 0), (1, 2), (2, 3), (3, 1)])
        polys = [lot.poly_for(word) for word in lot.all_members()]
        self.assertEqual(polys, [(), (1,), (2,), (3,)])
        self.assertEqual(distance_of(lot.as_lot()).distance, 2)
        self.assertEqual(bound_of(FOUR, 2, 2), 4)
        self.assertEqual(member_with_head(lot.as_lot(), (2,)), (2, 3))
        closed = lot.as_closed()
        self.assertEqual(closed.basis, ((1, 2), (2, 3)))
        rows = [digits_of_word(FOUR, word) for word in closed.basis]
        self.assertEqual(rows, [(1, 0, 0, 1), (0, 1, 1, 1)])
        rest = rest_lot(closed)
        self.assertEqual(rest.basis, ((1, 3), (2, 1)))
        row = digits_of_word(FOUR, (1, 3))
        self.assertEqual(row, (1, 0, 1, 1))
        self.assertEqual([sum(a * b for a, b in zip(row, other)) for other in rows], [2, 2])

    def test_order_of_points(self):
        words = {points: PolyLot(EIGHT, points, 1).word_for((1,))
                 for points in itertools.permutations((1, 2, 4))}
        self.assertTrue(all(points == word for points, word in words.items()))


if __name__ == "__main__":
    unittest.main()
