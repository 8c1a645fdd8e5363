"""Points [3.6] to [3.8]."""

import copy
import inspect
import unittest

from rankwords.closed import ClosedLot, meet_lots, rest_lot, sum_lots
from rankwords.errors import BadClosed, BadWord, TooMany, Unlike
from rankwords.lots import Lot
from rankwords.spaces import echelon
from rankwords.tables import digits_of_word, word_of_digits
from tests.support import (Case, EIGHT, FIELDS, FOUR, NINE, NO_INTEGERS, NO_SEQUENCES, SIXTEEN,
                           TWENTY_SEVEN, TWO, all_words, random_word, rng, spanned_rows)


def flat(field, words):
    return [digits_of_word(field, word) for word in words]


def members(lot):
    """The set of all members of a closed lot, from its basis."""
    width = lot.columns * lot.field.degree
    rows = spanned_rows(lot.field.prime, width, flat(lot.field, lot.basis))
    return {word_of_digits(lot.field, row) for row in rows}


def random_words(chance, field, columns, most):
    return tuple(random_word(chance, field, columns) for _ in range(chance.randrange(most + 1)))


def samples(seed, most=5, many=4):
    chance = rng(seed)
    for field in FIELDS:
        for columns in range(1, field.degree + 1):
            for _ in range(many):
                yield field, columns, random_words(chance, field, columns, most)


class MakingTest(Case):
    def test_least_closed_lot(self):
        for field, columns, words in samples(1):
            lot = ClosedLot(field, columns, words)
            width = columns * field.degree
            self.assertEqual(members(lot), {word_of_digits(field, row) for row in
                                            spanned_rows(field.prime, width, flat(field, words))})
            self.assertEqual(tuple(flat(field, lot.basis)),
                             echelon(field.prime, width, flat(field, words)))
            self.assertEqual((lot.field, lot.columns), (field, columns))
            self.assertEqual(lot.dimension, len(lot.basis))
            self.assertEqual(lot.size, field.prime ** lot.dimension)

    def test_basis_is_not_sorted(self):
        self.assertEqual(ClosedLot(FOUR, 1, [(1,), (2,)]).basis, ((1,), (2,)))
        self.assertEqual(ClosedLot(FOUR, 2, [(2, 1), (1, 3)]).basis, ((1, 3), (2, 1)))
        self.assertEqual(ClosedLot(FOUR, 2, [(0, 1), (3, 0)]).basis, ((3, 0), (0, 1)))

    def test_without_words(self):
        for field in FIELDS:
            for words in ((), [], [(0,)], [(0,)] * 16):
                lot = ClosedLot(field, 1, words)
                self.assertEqual((lot.basis, lot.dimension, lot.size), ((), 0, 1))
                self.assertEqual(list(lot.all_members()), [(0,)])
                self.assertEqual(lot.as_lot(), Lot(field, 1, [(0,)]))

    def test_16_words_and_17(self):
        words = [word_of_digits(SIXTEEN, [int(at == place) for at in range(16)])
                 for place in range(16)]
        lot = ClosedLot(SIXTEEN, 4, words)
        self.assertEqual((lot.dimension, lot.size), (16, 65536))
        self.assertEqual(lot.basis, tuple(words))
        for wrong in (words + [words[0]], [(0, 0, 0, 0)] * 17, [None] * 17):
            self.refuses(BadClosed, {"what": "many"}, ClosedLot, SIXTEEN, 4, wrong)

    def test_copies(self):
        words = [[1, 2], (2, 3)]
        kept = copy.deepcopy(words)
        lot = ClosedLot(FOUR, 2, words)
        self.assertEqual(words, kept)
        words[0][0] = 0
        words.append([3, 3])
        self.assertEqual(lot.basis, ((1, 2), (2, 3)))
        self.assertTrue(lot.holds((1, 2)))

    def test_equal(self):
        lot = ClosedLot(FOUR, 2, [(1, 2), (2, 3)])
        self.assertEqual(lot, ClosedLot(FOUR, 2, ([3, 1], [1, 2], [0, 0])))
        for other in (ClosedLot(FOUR, 2, [(1, 2)]), ClosedLot(EIGHT, 2, [(1, 2), (2, 3)]),
                      lot.as_lot(), lot.basis, None):
            self.assertFalse(lot == other)
            self.assertTrue(lot != other)
        self.assertNotEqual(ClosedLot(FOUR, 1, ()), ClosedLot(FOUR, 2, ()))
        self.assertNotEqual(ClosedLot(FOUR, 1, ()), ClosedLot(NINE, 1, ()))


class RefusedTest(Case):
    def told(self, what, *args):
        self.refuses(BadClosed, {"what": what}, ClosedLot, *args)

    def test_columns(self):
        for columns in NO_INTEGERS + (0, -1, 4, 10 ** 59):
            self.told("columns", EIGHT, columns, None)
            self.told("columns", EIGHT, columns, [(0,) * 4])

    def test_many(self):
        for words in NO_SEQUENCES:
            self.told("many", EIGHT, 2, words)
        self.told("many", EIGHT, 2, Lot(EIGHT, 2, [(1, 2)]))
        self.told("many", EIGHT, 2, iter([(1, 2)]))

    def test_word(self):
        for word in NO_SEQUENCES + ((), (1,), (1, 2, 3), (1, 8), [-1, 0], (True, 1), (1, None)):
            self.told("word", EIGHT, 2, [word])
            self.told("word", EIGHT, 2, ((1, 2),) * 15 + (word,))


class MembersTest(Case):
    def test_holds(self):
        for field, columns, words in samples(2):
            if field.size ** columns <= 300:
                lot = ClosedLot(field, columns, words)
                inside = members(lot)
                for word in all_words(field, columns):
                    self.assertIs(lot.holds(word), word in inside)
                    self.assertIs(lot.holds(list(word)), word in inside)

    def test_holds_for_any_size(self):
        lot = ClosedLot(SIXTEEN, 4, [(1 << bit, 0, 0, 0) for bit in range(4)]
                        + [(0, 1 << bit, 0, 0) for bit in range(4)]
                        + [(0, 0, 1 << bit, 0) for bit in range(4)])
        self.assertEqual(lot.size, 4096)
        self.assertTrue(lot.holds((15, 9, 3, 0)))
        self.assertFalse(lot.holds((15, 9, 3, 1)))

    def test_holds_refuses(self):
        lot = ClosedLot(FOUR, 2, [(1, 2)])
        for word in NO_SEQUENCES + ((), (1,), (1, 2, 3)):
            self.refuses(BadWord, {"index": -1}, lot.holds, word)
        for thing in NO_INTEGERS + (-1, 4):
            self.refuses(BadWord, {"index": 0}, lot.holds, (thing, None))
            self.refuses(BadWord, {"index": 1}, lot.holds, [1, thing])

    def test_all_members(self):
        for field, columns, words in samples(3, 3):
            lot = ClosedLot(field, columns, words)
            self.assertTrue(inspect.isgenerator(lot.all_members()))
            found = list(lot.all_members())
            self.assertEqual(found, sorted(members(lot)))
            self.assertEqual(lot.as_lot(), Lot(field, columns, found))
            self.assertTrue(all(type(word) is tuple for word in found))

    def test_256_members(self):
        lot = ClosedLot(SIXTEEN, 2, [(1 << bit, 0) for bit in range(4)]
                        + [(0, 1 << bit) for bit in range(4)])
        self.assertEqual(lot.size, 256)
        self.assertEqual(list(lot.all_members()), list(all_words(SIXTEEN, 2)))
        self.assertEqual(lot.as_lot().size, 256)
        self.assertEqual(ClosedLot(TWENTY_SEVEN, 2, [(1, 0), (3, 0), (9, 0), (0, 1), (0, 3)]).as_lot().size,
                         243)

    def test_too_many(self):
        for field, columns, words, size in (
                (SIXTEEN, 3, [(1 << bit, 0, 0) for bit in range(4)]
                 + [(0, 1 << bit, 0) for bit in range(4)] + [(0, 0, 1)], 512),
                (TWENTY_SEVEN, 2, [(3 ** at, 0) for at in range(3)]
                 + [(0, 3 ** at) for at in range(3)], 729)):
            lot = ClosedLot(field, columns, words)
            self.assertEqual(lot.size, size)
            self.refuses(TooMany, {"size": size}, lambda: list(lot.all_members()))
            self.refuses(TooMany, {"size": size}, lambda: next(lot.all_members()))
            self.refuses(TooMany, {"size": size}, lot.as_lot)


class TwoLotsTest(Case):
    def couples(self, seed):
        chance = rng(seed)
        for field, columns, words in samples(seed, 4, 3):
            other = random_words(chance, field, columns, 4) + words[:1]
            yield ClosedLot(field, columns, words), ClosedLot(field, columns, other)

    def test_sums_and_meets(self):
        for one, other in self.couples(4):
            first, second = members(one), members(other)
            added, common = sum_lots(one, other), meet_lots(one, other)
            self.assertIs(type(added), ClosedLot)
            self.assertIs(type(common), ClosedLot)
            self.assertEqual(members(common), first & second)
            self.assertEqual(added, ClosedLot(one.field, one.columns, one.basis + other.basis))
            self.assertLessEqual(first | second, members(added))
            self.assertEqual(added.size * common.size, one.size * other.size)

    def test_any_size(self):
        words = [tuple(1 << bit if at == place else 0 for at in range(4))
                 for place in range(4) for bit in range(4)]
        one, other = ClosedLot(SIXTEEN, 4, words[:12]), ClosedLot(SIXTEEN, 4, words[2:])
        self.assertEqual(sum_lots(one, other).size, 65536)
        self.assertEqual(meet_lots(one, other), ClosedLot(SIXTEEN, 4, words[2:12]))

    def test_unlike(self):
        lot = ClosedLot(EIGHT, 2, [(1, 2)])
        for other in (ClosedLot(EIGHT, 1, [(1,)]), ClosedLot(EIGHT, 3, ()), ClosedLot(FOUR, 2, ()),
                      ClosedLot(NINE, 1, ())):
            for function in (sum_lots, meet_lots):
                self.refuses(Unlike, {}, function, lot, other)
                self.refuses(Unlike, {}, function, other, lot)


class RestTest(Case):
    def test_gone_through(self):
        for field, columns, words in samples(5):
            lot = ClosedLot(field, columns, words)
            rest = rest_lot(lot)
            self.assertIs(type(rest), ClosedLot)
            self.assertEqual(lot.size * rest.size, field.prime ** (field.degree * columns))
            self.assertEqual(rest_lot(rest), lot)
            if field.size ** columns <= 300:
                rows = flat(field, words)
                wanted = {word for word in all_words(field, columns)
                          if all(sum(a * b for a, b in zip(digits_of_word(field, word), row))
                                 % field.prime == 0 for row in rows)}
                self.assertEqual(members(rest), wanted)

    def test_sums_and_meets(self):
        for one, other in TwoLotsTest().couples(6):
            self.assertEqual(rest_lot(sum_lots(one, other)),
                             meet_lots(rest_lot(one), rest_lot(other)))
            self.assertEqual(rest_lot(meet_lots(one, other)),
                             sum_lots(rest_lot(one), rest_lot(other)))

    def test_edges(self):
        for field in FIELDS:
            for columns in range(1, field.degree + 1):
                nothing = ClosedLot(field, columns, ())
                self.assertEqual(rest_lot(nothing).size, field.size ** columns)
                self.assertEqual(rest_lot(rest_lot(nothing)), nothing)

    def test_common_members(self):
        lot = ClosedLot(TWO, 1, [(1,)])
        self.assertEqual(rest_lot(lot).basis, ())
        lot = ClosedLot(FOUR, 1, [(3,)])
        self.assertEqual(rest_lot(lot), lot)


if __name__ == "__main__":
    unittest.main()
