"""Points [3.1] and [3.2]."""

import copy
import inspect
import itertools
import unittest

from rankwords.closed import ClosedLot
from rankwords.errors import BadLot, BadWord
from rankwords.lots import Apart, Lot, distance_of
from tests.support import (Case, EIGHT, FIELDS, FOUR, NINE, NO_INTEGERS, NO_SEQUENCES, SIXTEEN,
                           TWENTY_SEVEN, TWO, all_words, random_word, rng, slow_distance)


def random_lots(seed, most=12):
    chance = rng(seed)
    for field in FIELDS:
        for columns in range(1, field.degree + 1):
            for _ in range(5):
                many = chance.randrange(1, most)
                yield field, columns, [random_word(chance, field, columns) for _ in range(many)]


class MakingTest(Case):
    def test_members(self):
        for field, columns, words in random_lots(1):
            lot = Lot(field, columns, words)
            wanted = tuple(sorted(set(words)))
            self.assertEqual(lot.members, wanted)
            self.assertEqual((lot.field, lot.columns, lot.size), (field, columns, len(wanted)))
            self.assertEqual(len(lot), len(wanted))
            self.assertEqual(list(lot), list(wanted))
            self.assertEqual(list(lot.all_members()), list(wanted))
            self.assertTrue(inspect.isgenerator(lot.all_members()))

    def test_holds(self):
        for field, columns, words in random_lots(2):
            if field.size ** columns <= 256:
                lot = Lot(field, columns, words)
                for word in all_words(field, columns):
                    self.assertIs(lot.holds(word), word in words)
                    self.assertIs(lot.holds(list(word)), word in words)

    def test_holds_refuses(self):
        lot = Lot(FOUR, 2, [(1, 2)])
        for word in NO_SEQUENCES + ((), (1,), (1, 2, 3)):
            self.refuses(BadWord, {"index": -1}, lot.holds, word)
        for thing in NO_INTEGERS + (-1, 4):
            self.refuses(BadWord, {"index": 0}, lot.holds, (thing, None))
            self.refuses(BadWord, {"index": 1}, lot.holds, [1, thing])

    def test_order(self):
        lot = Lot(EIGHT, 2, [[7, 0], (0, 7), [1, 6], (1, 0), [0, 7]])
        self.assertEqual(lot.members, ((0, 7), (1, 0), (1, 6), (7, 0)))

    def test_copies(self):
        words = [[1, 2], [3, 0]]
        kept = copy.deepcopy(words)
        lot = Lot(FOUR, 2, words)
        self.assertEqual(words, kept)
        words[0][0] = 0
        words.append([0, 0])
        self.assertEqual(lot.members, ((1, 2), (3, 0)))
        self.assertEqual(lot, Lot(FOUR, 2, kept))

    def test_256_and_257_members(self):
        words = list(all_words(SIXTEEN, 2))
        self.assertEqual(Lot(SIXTEEN, 2, words).size, 256)
        self.assertEqual(Lot(SIXTEEN, 3, [(1, 2, 3)] * 256).size, 1)
        for wrong in (words + [(0, 0)], [(0, 0)] * 257, [None] * 257):
            self.refuses(BadLot, {"what": "many"}, Lot, SIXTEEN, 2, wrong)

    def test_equal(self):
        lot = Lot(FOUR, 1, [(1,), (2,)])
        self.assertEqual(lot, Lot(FOUR, 1, ([2], (1,), (1,))))
        for other in (Lot(FOUR, 1, [(1,)]), Lot(NINE, 1, [(1,), (2,)]), Lot(FOUR, 2, [(1, 0), (2, 0)]),
                      None, ((1,), (2,)), lot.members, "lot"):
            self.assertFalse(lot == other)
            self.assertTrue(lot != other)
        self.assertFalse(Lot(FOUR, 1, [(0,)]) == ClosedLot(FOUR, 1, []))


class RefusedLotsTest(Case):
    def told(self, what, *args):
        self.refuses(BadLot, {"what": what}, Lot, *args)

    def test_columns(self):
        for columns in NO_INTEGERS + (0, -1, 4, 10 ** 59):
            self.told("columns", EIGHT, columns, [(1,) * 4])
            self.told("columns", EIGHT, columns, None)
        self.told("columns", TWO, 2, [(1, 1)])

    def test_none(self):
        for members in NO_SEQUENCES + ((), []):
            self.told("none", EIGHT, 2, members)

    def test_no_other_object(self):
        self.told("none", FOUR, 1, Lot(FOUR, 1, [(1,)]))
        self.told("none", FOUR, 1, iter([(1,)]))

    def test_word(self):
        for word in NO_SEQUENCES + ((), (1,), (1, 2, 3), (1, 8), [-1, 0], (True, 1), (1, None)):
            self.told("word", EIGHT, 2, [word])
            self.told("word", EIGHT, 2, [(1, 2), word])
            self.told("word", EIGHT, 2, ((1, 2),) * 255 + (word,))


class DistanceTest(Case):
    def test_gone_through(self):
        for field, columns, words in random_lots(3, 8):
            lot = Lot(field, columns, words)
            found = distance_of(lot)
            pairs = [(slow_distance(field, one, other), (one, other))
                     for one, other in itertools.combinations(lot.members, 2)]
            wanted = min(pairs) if pairs else (columns + 1, None)
            self.assertEqual((found.distance, found.couple), wanted)

    def test_one_member(self):
        for field in FIELDS:
            for columns in range(1, field.degree + 1):
                found = distance_of(Lot(field, columns, [(0,) * columns] * 3))
                self.assertIs(type(found), Apart)
                self.assertEqual((found.distance, found.couple), (columns + 1, None))

    def test_every_distance(self):
        for distance, other in ((1, (1, 1, 1)), (2, (1, 2, 3)), (3, (1, 2, 4))):
            found = distance_of(Lot(EIGHT, 3, [(0, 0, 0), other]))
            self.assertEqual((found.distance, found.couple), (distance, ((0, 0, 0), other)))

    def test_first_couple(self):
        found = distance_of(Lot(FOUR, 2, [(3, 1), (0, 0), (1, 2), (2, 3), (2, 2), (3, 3)]))
        self.assertEqual((found.distance, found.couple), (1, ((0, 0), (2, 2))))

    def test_256_members(self):
        words = [(a, b, 0, 0) for a in range(16) for b in range(16)]
        found = distance_of(Lot(SIXTEEN, 4, words))
        self.assertEqual((found.distance, found.couple), (1, ((0, 0, 0, 0), (0, 1, 0, 0))))

    def test_27_things(self):
        found = distance_of(Lot(TWENTY_SEVEN, 3, [(1, 3, 9), (0, 0, 0), (2, 6, 18)]))
        self.assertEqual((found.distance, found.couple), (3, ((0, 0, 0), (1, 3, 9))))

    def test_result_keeps_what_it_is_given(self):
        couple = [1]
        made = Apart("anything", couple)
        self.assertEqual(made.distance, "anything")
        self.assertIs(made.couple, couple)
        self.assertEqual(made, Apart("anything", [1]))
        self.assertNotEqual(made, Apart(1, [1]))
        self.assertNotEqual(made, Apart("anything", None))
        self.assertNotEqual(made, ("anything", [1]))


if __name__ == "__main__":
    unittest.main()
