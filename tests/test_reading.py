"""Points [5.1] and [5.4] to [5.6]: reading words back."""

import unittest

from rankwords.errors import BadErrors, BadWord
from rankwords.nearest import far_word
from rankwords.polylots import PolyLot
from rankwords.reading import Far, Read, read_count, read_fault, read_word
from tests.support import (Case, EIGHT, FIELDS, FOUR, NINE, NO_INTEGERS, NO_SEQUENCES, SIXTEEN,
                           TWENTY_SEVEN, all_words, error_of_rank, poly_lots, random_poly,
                           random_points, random_word, rng, slow_distance, slow_less, slow_ranks,
                           slow_value)

LOT = PolyLot(EIGHT, (1, 2, 4), 1)
GREAT = PolyLot(SIXTEEN, (1, 2, 4, 8), 2)


def slow_read(polylot, word):
    """What read_word has to return, from all members gone through."""
    field, best = polylot.field, None
    for member in polylot.as_lot():
        rank = slow_distance(field, word, member)
        if best is None or rank < best[0]:
            best = rank, member
    rank, member = best
    if 2 * rank >= polylot.distance:
        return Far(rank)
    return Read(polylot.poly_for(member), member, slow_less(field, word, member), rank)


class ResultsTest(Case):
    def test_attributes(self):
        values = [[1], (2,), object(), "any"]
        read = Read(*values)
        self.assertEqual(vars(read), dict(zip(("poly", "word", "error", "rank"), values)))
        self.assertIs(read.poly, values[0])
        self.assertEqual(vars(Far(values)), {"least": values})
        self.assertIs(Far(values).least, values)

    def test_equal(self):
        read = Read((1,), (1, 2), (0, 0), 0)
        self.assertEqual(read, Read((1,), (1, 2), (0, 0), 0))
        for other in (Read((), (1, 2), (0, 0), 0), Read((1,), (1, 3), (0, 0), 0),
                      Read((1,), (1, 2), (0, 1), 0), Read((1,), (1, 2), (0, 0), 1), Far(0), None,
                      ((1,), (1, 2), (0, 0), 0)):
            self.assertFalse(read == other)
            self.assertTrue(read != other)
        self.assertEqual(Far(2), Far(2))
        for other in (Far(1), Far(None), read, 2, None):
            self.assertFalse(Far(2) == other)


class ReadWordTest(Case):
    def test_gone_through(self):
        for polylot in poly_lots(1):
            field, columns = polylot.field, polylot.columns
            if polylot.size <= 256 and polylot.size * field.size ** columns <= 10000:
                for word in all_words(field, columns):
                    self.assertEqual(read_word(polylot, word), slow_read(polylot, word))

    def test_samples(self):
        chance = rng(2)
        for polylot in poly_lots(2):
            if polylot.size <= 256:
                for _ in range(6):
                    word = random_word(chance, polylot.field, polylot.columns)
                    self.assertEqual(read_word(polylot, word), slow_read(polylot, word))

    def test_errors_just_below_half(self):
        """Every error below half of the distance is undone, for lots of any size."""
        chance = rng(3)
        for polylot in poly_lots(3):
            field = polylot.field
            for rank in range((polylot.distance + 1) // 2):
                for _ in range(4):
                    poly = random_poly(chance, field, polylot.terms)
                    member = tuple(slow_value(field, poly, point) for point in polylot.points)
                    error = error_of_rank(chance, field, polylot.columns, rank)
                    word = tuple(map(field.plus, member, error))
                    self.assertEqual(read_word(polylot, word), Read(poly, member, error, rank))

    def test_least_of_far_words(self):
        """With 4 columns and one term, far words have a least distance of 2 or of 3."""
        chance = rng(4)
        for field in FIELDS[4:6]:
            polylot = PolyLot(field, random_points(chance, field, 4), 1)
            words = [random_word(chance, field, 4) for _ in range(40)]
            words += [tuple(map(field.plus, member, far_word(polylot)))
                      for member in polylot.all_members()]
            reads = [read_word(polylot, word) for word in words]
            self.assertEqual(reads, [slow_read(polylot, word) for word in words])
            self.assertTrue(Far(2) in reads and Far(3) in reads)

    def test_lots_beyond_256_members(self):
        lot = PolyLot(SIXTEEN, (1, 2, 4, 8), 3)
        self.assertEqual(read_word(lot, (0, 0, 0, 0)), Read((), (0, 0, 0, 0), (0, 0, 0, 0), 0))
        self.assertEqual(read_word(lot, (0, 0, 0, 1)), Far(1))
        lot = PolyLot(TWENTY_SEVEN, (1, 3, 9), 2)
        self.assertEqual(read_word(lot, far_word(lot)), Far(1))
        for word in ((5, 0, 0), (1, 2, 3)):
            self.assertEqual(read_word(PolyLot(TWENTY_SEVEN, (1, 3, 9), 3), word).error, (0, 0, 0))

    def test_least_goes_up_to_the_distance_less_1(self):
        for polylot in poly_lots(5):
            found = read_word(polylot, far_word(polylot))
            if polylot.distance > 1:
                self.assertEqual(found, Far(polylot.distance - 1))
            else:
                self.assertEqual(found, Read((), far_word(polylot), far_word(polylot), 0))

    def test_moved_and_scaled_words(self):
        chance = rng(6)
        for polylot in poly_lots(6):
            field = polylot.field
            for _ in range(6):
                word = random_word(chance, field, polylot.columns)
                member = polylot.word_for(random_poly(chance, field, polylot.terms))
                thing = chance.randrange(1, field.size)
                first = read_word(polylot, word)
                moved = read_word(polylot, tuple(map(field.plus, word, member)))
                scaled = read_word(polylot, [field.times(thing, item) for item in word])
                if isinstance(first, Far):
                    self.assertEqual((moved, scaled), (first, first))
                else:
                    self.assertEqual((moved.error, moved.rank), (first.error, first.rank))
                    wanted = tuple(field.times(thing, item) for item in first.error)
                    self.assertEqual((scaled.error, scaled.rank), (wanted, first.rank))

    def test_results_are_tuples(self):
        self.takes_lists(lambda word: read_word(LOT, word), (0, 2, 4))
        self.takes_lists(lambda word: read_word(LOT, word), (0, 0, 4))

    def test_refused(self):
        for word in NO_SEQUENCES + ((), (1, 2), (1, 2, 3, 4)):
            self.refuses(BadWord, {"index": -1}, read_word, LOT, word)
        for thing in NO_INTEGERS + (-1, 8):
            self.refuses(BadWord, {"index": 0}, read_word, LOT, (thing, None, 0))
            self.refuses(BadWord, {"index": 2}, read_word, LOT, [0, 0, thing])

    def test_example(self):
        self.assertEqual(read_word(LOT, (0, 2, 4)), Read((1,), (1, 2, 4), (1, 0, 0), 1))
        self.assertEqual(read_word(PolyLot(FOUR, (1, 2), 1), (1, 0)), Far(1))


class FaultTest(Case):
    def test_right_results(self):
        chance = rng(7)
        for polylot in poly_lots(7):
            for _ in range(6):
                word = random_word(chance, polylot.field, polylot.columns)
                read = read_word(polylot, word)
                if isinstance(read, Read):
                    self.assertIsNone(read_fault(polylot, word, read))
                    self.assertIsNone(read_fault(polylot, list(word), read))

    def test_poly(self):
        for poly in NO_SEQUENCES + ((0,), (8,), (True,), (1, 1), [1, 0], (1.0,), [[1]]):
            self.assertEqual(read_fault(LOT, (0, 2, 4), Read(poly, None, None, None)), "poly")
        self.assertIsNone(read_fault(LOT, (0, 2, 4), Read([1], (1, 2, 4), (1, 0, 0), 1)))

    def test_word(self):
        for word in NO_SEQUENCES + ((1, 2, 5), (1, 2), [1, 2, 4], (2, 4, 3), (1, 2, 4, 0)):
            self.assertEqual(read_fault(LOT, (0, 2, 4), Read((1,), word, None, None)), "word")
        self.assertEqual(read_fault(LOT, (0, 2, 4), Read((), (1, 2, 4), (1, 0, 0), 1)), "word")

    def test_error(self):
        for error in NO_SEQUENCES + ((0, 0, 0), (1, 0), [1, 0, 0], (1, 0, 1), (1, 0, 0, 0)):
            self.assertEqual(read_fault(LOT, (0, 2, 4), Read((1,), (1, 2, 4), error, None)), "error")
        nine = PolyLot(NINE, (1, 3), 2)
        self.assertEqual(read_fault(nine, (0, 0), Read((1,), (1, 3), (1, 3), 2)), "error")
        self.assertEqual(read_fault(nine, (0, 0), Read((1,), (1, 3), (2, 6), 2)), "rank")

    def test_rank(self):
        for rank in (0, 2, 3, -1, None, "1", (1,), 1.5):
            self.assertEqual(read_fault(LOT, (0, 2, 4), Read((1,), (1, 2, 4), (1, 0, 0), rank)), "rank")
        # The rank is right, but not below half of the distance.
        self.assertEqual(read_fault(LOT, (0, 2, 4), Read((), (0, 0, 0), (0, 2, 4), 2)), "rank")
        self.assertEqual(read_fault(PolyLot(FOUR, (1, 2), 1), (1, 0),
                                    Read((), (0, 0), (1, 0), 1)), "rank")
        self.assertIsNone(read_fault(PolyLot(FOUR, (1, 2), 1), (1, 2), Read((1,), (1, 2), (0, 0), 0)))

    def test_compared_by_equality(self):
        self.assertIsNone(read_fault(LOT, (0, 2, 4), Read((1,), (1.0, 2, 4), (True, 0, 0), 1.0)))

    def test_refused(self):
        read = Read(None, None, None, None)
        for word in NO_SEQUENCES + ((), (1, 2), (1, 2, 3, 4)):
            self.refuses(BadWord, {"index": -1}, read_fault, LOT, word, read)
        for thing in NO_INTEGERS + (-1, 8):
            self.refuses(BadWord, {"index": 1}, read_fault, LOT, (0, thing, None), read)


class CountTest(Case):
    def test_gone_through(self):
        for polylot in poly_lots(8):
            field, columns = polylot.field, polylot.columns
            if polylot.size <= 256 and polylot.size * field.size ** columns <= 10000:
                leasts = []
                for word in all_words(field, columns):
                    found = slow_read(polylot, word)
                    leasts.append(found.least if isinstance(found, Far) else found.rank)
                for most in range((polylot.distance + 1) // 2):
                    self.assertEqual(read_count(polylot, most=most),
                                     sum(least <= most for least in leasts))

    def test_none_is_the_greatest(self):
        for polylot in poly_lots(9):
            self.assertEqual(read_count(polylot),
                             read_count(polylot, most=(polylot.distance - 1) // 2))
            self.assertEqual(read_count(polylot, most=None), read_count(polylot))
            self.assertEqual(read_count(polylot, most=0), polylot.size)

    def test_numbers_of_words(self):
        ranks = list(slow_ranks(EIGHT, 3).values())
        self.assertEqual(read_count(LOT, most=1), 8 * sum(rank <= 1 for rank in ranks))
        self.assertEqual(read_count(GREAT), 256 * 226)

    def test_refused(self):
        for most in NO_INTEGERS[:5] + NO_INTEGERS[6:] + (-1, 2, 10 ** 59, -10 ** 59):
            self.refuses(BadErrors, {}, read_count, LOT, most=most)
        self.refuses(BadErrors, {}, read_count, PolyLot(FOUR, (1, 2), 1), most=1)
        with self.assertRaises(TypeError):
            read_count(LOT, 0)


if __name__ == "__main__":
    unittest.main()
