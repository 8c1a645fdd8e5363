"""Points [10.2] and [10.3]: numbers and heads of polys."""

import unittest

from rankwords.bounds import member_with_head
from rankwords.datas import number_of, poly_of_number, poly_with_head
from rankwords.errors import BadHead, BadNumber, BadPoly
from rankwords.polylots import PolyLot
from tests.support import (Case, EIGHT, FOUR, NO_INTEGERS, NO_SEQUENCES, SIXTEEN, TWENTY_SEVEN,
                           all_polys, all_words, poly_lots, random_poly, random_word, rng, slow_value)

LOT = PolyLot(EIGHT, (1, 2, 4), 2)


def slow_number(field, poly):
    number, power = 0, 1
    for term in poly:
        number, power = number + term * power, power * field.size
    return number


class NumberTest(Case):
    def test_all(self):
        """One poly for each number below the size, and one number for each poly."""
        for polylot in poly_lots(1):
            if polylot.size <= 729:
                polys = [poly_of_number(polylot, number) for number in range(polylot.size)]
                self.assertEqual(sorted(polys), sorted(all_polys(polylot.field, polylot.terms)))
                self.assertEqual([number_of(polylot, poly) for poly in polys],
                                 list(range(polylot.size)))

    def test_samples(self):
        chance = rng(2)
        for polylot in poly_lots(2, 3):
            poly = random_poly(chance, polylot.field, polylot.terms)
            number = slow_number(polylot.field, poly)
            self.assertEqual(number_of(polylot, poly), number)
            self.assertEqual(poly_of_number(polylot, number), poly)
            self.takes_lists(number_of, polylot, poly)
            self.assertIs(type(poly_of_number(polylot, number)), tuple)

    def test_edges(self):
        for polylot in poly_lots(3):
            greatest = (polylot.field.size - 1,) * polylot.terms
            self.assertEqual(poly_of_number(polylot, 0), ())
            self.assertEqual(number_of(polylot, ()), 0)
            self.assertEqual(poly_of_number(polylot, polylot.size - 1), greatest)
            self.assertEqual(number_of(polylot, greatest), polylot.size - 1)
            self.refuses(BadNumber, {}, poly_of_number, polylot, polylot.size)

    def test_zeros_inside(self):
        self.assertEqual(poly_of_number(LOT, 8), (0, 1))
        self.assertEqual(poly_of_number(LOT, 19), (3, 2))
        self.assertEqual(number_of(LOT, (0, 7)), 56)

    def test_numbers_refused(self):
        for number in NO_INTEGERS + NO_SEQUENCES[:4] + (-1, 64, 10 ** 59, -10 ** 59):
            self.refuses(BadNumber, {}, poly_of_number, LOT, number)
        self.assertEqual(poly_of_number(LOT, 63), (7, 7))

    def test_polys_refused(self):
        for poly in NO_SEQUENCES + ((1, 1, 1), [9] * 3):
            self.refuses(BadPoly, {"index": -1}, number_of, LOT, poly)
        for thing in NO_INTEGERS + (-1, 8):
            self.refuses(BadPoly, {"index": 0}, number_of, LOT, (thing, 0))
            self.refuses(BadPoly, {"index": 1}, number_of, LOT, [0, thing])
        self.refuses(BadPoly, {"index": 1}, number_of, LOT, [1, 0])
        self.refuses(BadPoly, {"index": -1}, number_of, PolyLot(EIGHT, (1, 2), 1), (1, 1))


class HeadTest(Case):
    def test_all(self):
        """Just one member begins with each head."""
        for polylot in poly_lots(4):
            if polylot.size <= 256:
                members = list(polylot.all_members())
                for head in all_words(polylot.field, polylot.terms):
                    poly = poly_with_head(polylot, head)
                    begun = [word for word in members if word[:polylot.terms] == head]
                    self.assertEqual(begun, [polylot.word_for(poly)])

    def test_as_in_part_3(self):
        lot = LOT.as_lot()
        for head in all_words(EIGHT, 2):
            self.assertEqual(LOT.word_for(poly_with_head(LOT, head)), member_with_head(lot, head))

    def test_samples(self):
        chance = rng(5)
        for polylot in poly_lots(5, 4):
            head = random_word(chance, polylot.field, polylot.terms)
            poly = poly_with_head(polylot, head)
            self.assertLessEqual(len(poly), polylot.terms)
            self.assertEqual(tuple(slow_value(polylot.field, poly, point)
                                   for point in polylot.points[:polylot.terms]), head)
            self.assertEqual(polylot.word_for(poly)[:polylot.terms], head)
            self.takes_lists(poly_with_head, polylot, head)
            again = polylot.word_for(random_poly(chance, polylot.field, polylot.terms))
            self.assertEqual(poly_with_head(polylot, again[:polylot.terms]), polylot.poly_for(again))

    def test_zeros(self):
        for polylot in poly_lots(6):
            self.assertEqual(poly_with_head(polylot, (0,) * polylot.terms), ())
            self.assertEqual(poly_with_head(polylot, polylot.points[:polylot.terms]), (1,))

    def test_refused(self):
        for head in NO_SEQUENCES + ((), (1,), (1, 2, 3), [9] * 3):
            self.refuses(BadHead, {}, poly_with_head, LOT, head)
        for thing in NO_INTEGERS + (-1, 8, 10 ** 59):
            self.refuses(BadHead, {}, poly_with_head, LOT, (thing, 1))
            self.refuses(BadHead, {}, poly_with_head, LOT, [1, thing])
        self.refuses(BadHead, {}, poly_with_head, PolyLot(FOUR, (1,), 1), (1, 1))
        self.assertEqual(poly_with_head(PolyLot(SIXTEEN, (4, 1), 1), [8]), (2,))
        self.assertEqual(poly_with_head(PolyLot(TWENTY_SEVEN, (1,), 1), (26,)), (26,))


if __name__ == "__main__":
    unittest.main()
