"""Points [6.10] and [6.11]: words and losses that two members fit alike."""

import copy
import unittest

from rankwords.clashes import Clash, clash_fault, find_clash
from rankwords.errors import NoClash
from rankwords.losses import Losses, rest_rank
from rankwords.lostreads import read_lost
from rankwords.polylots import PolyLot
from rankwords.reading import Far
from tests.support import (Case, EIGHT, FOUR, NINE, NO_INTEGERS, NO_SEQUENCES, SIXTEEN, made_of_tuples,
                           members_of, poly_lots, random_losses, random_word, rng, slow_less,
                           slow_rank)

LOT = PolyLot(EIGHT, (1, 2, 4), 1)


def numbers_for(distance):
    """All triples rows, things, errors of which twice the last and the others sum to the distance."""
    for errors in range(distance // 2 + 1):
        for rows in range(distance - 2 * errors + 1):
            yield rows, distance - 2 * errors - rows, errors


class FindTest(Case):
    def check(self, polylot, rows, things, errors):
        clash = find_clash(polylot, rows, things, errors)
        self.assertIs(type(clash), Clash)
        self.assertTrue(polylot.holds(clash.one) and polylot.holds(clash.other))
        self.assertNotEqual(clash.one, clash.other)
        losses = clash.losses
        self.assertEqual((losses.field, losses.columns), (polylot.field, polylot.columns))
        self.assertEqual((len(losses.rows), len(losses.things)), (rows, things))
        for member in (clash.one, clash.other):
            error = slow_less(polylot.field, clash.word, member)
            self.assertEqual(rest_rank(losses, error), errors)
        self.assertEqual(read_lost(polylot, clash.word, losses), Far(-1))
        self.assertIsNone(clash_fault(polylot, rows, things, errors, clash))
        self.assertTrue(made_of_tuples((clash.one, clash.other, clash.word)))

    def test_all_poly_lots(self):
        for polylot in poly_lots(1, 2):
            for rows, things, errors in numbers_for(polylot.distance):
                self.check(polylot, rows, things, errors)

    def test_great_lots(self):
        for terms in (1, 2, 3, 4):
            polylot = PolyLot(SIXTEEN, (3, 5, 9, 1), terms)
            for rows, things, errors in numbers_for(polylot.distance):
                self.check(polylot, rows, things, errors)

    def test_distance_1(self):
        polylot = PolyLot(NINE, (1, 3), 2)
        self.check(polylot, 1, 0, 0)
        self.check(polylot, 0, 1, 0)
        self.refuses(NoClash, {}, find_clash, polylot, 0, 0, 0)
        self.refuses(NoClash, {}, find_clash, polylot, 0, 0, 1)

    def test_no_losses(self):
        """Errors alone: the word lies half way between two members."""
        polylot = PolyLot(FOUR, (1, 2), 1)
        clash = find_clash(polylot, 0, 0, 1)
        self.assertEqual(clash.losses, Losses(FOUR, 2, (), ()))
        for member in (clash.one, clash.other):
            self.assertEqual(slow_rank(FOUR, slow_less(FOUR, clash.word, member)), 1)


class RefusedTest(Case):
    def test_numbers(self):
        clash = find_clash(LOT, 1, 0, 1)
        for wrong in NO_INTEGERS + (-1, 4, 10 ** 59, -10 ** 59):
            for numbers in ((wrong, 0, 1), (1, wrong, 1), (1, 0, wrong), (wrong, wrong, wrong)):
                self.refuses(NoClash, {}, find_clash, LOT, *numbers)
                self.refuses(NoClash, {}, clash_fault, LOT, *numbers, clash)
                self.refuses(NoClash, {}, clash_fault, LOT, *numbers, None)

    def test_sums(self):
        good = set(numbers_for(3))
        for rows in range(5):
            for things in range(5):
                for errors in range(4):
                    if (rows, things, errors) not in good:
                        self.refuses(NoClash, {}, find_clash, LOT, rows, things, errors)
                        self.refuses(NoClash, {}, clash_fault, LOT, rows, things, errors, None)
        for numbers in ((-1, 2, 1), (5, 0, -1), (2, -1, 1), (-2, -1, 3)):
            self.refuses(NoClash, {}, find_clash, LOT, *numbers)


class FaultTest(Case):
    """One row is lost, and one error stands besides."""

    def setUp(self):
        self.losses = Losses(EIGHT, 3, [(1, 0, 0)], ())
        self.good = {"one": (0, 0, 0), "other": (1, 2, 4), "word": (1, 2, 0), "losses": self.losses}

    def fault(self, **more):
        return clash_fault(LOT, 1, 0, 1, Clash(**{**self.good, **more}))

    def test_right(self):
        self.assertIsNone(self.fault())
        self.assertIsNone(self.fault(one=(1, 2, 4), other=(0, 0, 0)))
        self.assertIsNone(self.fault(one=[0, 0, 0], other=[1, 2, 4], word=[1, 2, 0]))
        self.assertIsNone(self.fault(word=(7, 2, 0)))
        self.assertIsNone(self.fault(word=(7, 0, 4)))
        self.assertIsNone(self.fault(losses=Losses(EIGHT, 3, [(0, 1, 0)], ())))

    def test_one(self):
        for one in NO_SEQUENCES + ((), (0, 0), (0, 0, 0, 0), (0, 0, 1), (True, 2, 4), (1, 2, 8),
                                   (0, 0, None), LOT):
            self.assertEqual(self.fault(one=one), "one")
            self.assertEqual(self.fault(one=one, other=None, word=None, losses=None), "one")

    def test_other(self):
        for other in NO_SEQUENCES + ((), (1, 2), (1, 2, 5), (True, 2, 4), [1, 2, None],
                                     (0, 0, 0), [0, 0, 0]):
            self.assertEqual(self.fault(other=other), "other")
            self.assertEqual(self.fault(other=other, word=None, losses=None), "other")
        self.assertEqual(self.fault(one=[1, 2, 4], other=(1, 2, 4)), "other")

    def test_losses(self):
        for losses in NO_SEQUENCES + (((1, 0, 0),), Losses(EIGHT, 3, (), ()),
                                      Losses(EIGHT, 3, (), [1]), Losses(EIGHT, 3, [(1, 0, 0)], [1]),
                                      Losses(EIGHT, 3, [(1, 0, 0), (0, 1, 0)], ()),
                                      Losses(SIXTEEN, 3, [(1, 0, 0)], ()),
                                      Losses(EIGHT, 2, [(1, 0)], ())):
            self.assertEqual(self.fault(losses=losses), "losses")
            self.assertEqual(self.fault(losses=losses, word=None), "losses")

    def test_word(self):
        for word in NO_SEQUENCES + ((), (1, 2), (1, 2, 0, 0), (True, 2, 0), (1, 2, 8), (1, None, 0)):
            self.assertEqual(self.fault(word=word), "word")
        for word in ((0, 0, 0), (1, 2, 4), (5, 0, 0), (1, 2, 3)):
            one, other = [rest_rank(self.losses, slow_less(EIGHT, word, member))
                          for member in ((0, 0, 0), (1, 2, 4))]
            self.assertEqual(self.fault(word=word), None if one == other == 1 else "word")
        self.assertEqual(self.fault(word=(0, 0, 0)), "word")
        self.assertEqual(self.fault(word=(1, 2, 4)), "word")

    def test_all_words(self):
        """All judgements over one lot, from the rest ranks."""
        chance = rng(2)
        for polylot in poly_lots(3):
            if polylot.distance < 2:
                continue
            members = members_of(polylot.as_closed())
            for rows, things, errors in numbers_for(polylot.distance):
                one, other = chance.choice(members), chance.choice(members)
                losses = random_losses(chance, polylot.field, polylot.columns)
                word = random_word(chance, polylot.field, polylot.columns)
                ranks = {rest_rank(losses, slow_less(polylot.field, word, member))
                         for member in (one, other)}
                wanted = None
                if one == other:
                    wanted = "other"
                elif (len(losses.rows), len(losses.things)) != (rows, things):
                    wanted = "losses"
                elif ranks != {errors}:
                    wanted = "word"
                clash = Clash(one, other, word, losses)
                kept = copy.deepcopy(vars(clash))
                self.assertEqual(clash_fault(polylot, rows, things, errors, clash), wanted)
                self.assertEqual(vars(clash), kept)


class ResultTest(Case):
    def test_attributes(self):
        values = [[1], (2,), object(), "any"]
        clash = Clash(*values)
        self.assertEqual(vars(clash), dict(zip(("one", "other", "word", "losses"), values)))
        self.assertIs(clash.one, values[0])
        self.assertEqual(Clash(1, 2, 3, 4), Clash(1, 2, 3, 4))
        for told in ((0, 2, 3, 4), (1, 0, 3, 4), (1, 2, 0, 4), (1, 2, 3, 0)):
            self.assertFalse(Clash(1, 2, 3, 4) == Clash(*told))
        self.assertFalse(Clash(1, 2, 3, 4) == (1, 2, 3, 4))


if __name__ == "__main__":
    unittest.main()
