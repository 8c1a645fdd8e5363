"""Points [4.1] and [4.2], and the words at the head of part 4."""

import unittest

from rankwords.counting import space_count
from rankwords.errors import BadDistance, BadSizes
from rankwords.formulas import met_counts, words_of_rank
from rankwords.lots import Lot
from rankwords.polylots import PolyLot
from rankwords.tables import word_sum
from tests.support import (Case, EIGHT, FIELDS, NINE, NO_INTEGERS, all_words, random_points,
                           random_word, rng, slow_distance, slow_rank, tally)

SIZES = [(prime, degree, columns)
         for prime in (2, 3) for degree in range(1, 13) for columns in range(1, 13)]


class WordsOfRankTest(Case):
    def test_gone_through(self):
        for field in FIELDS:
            for columns in range(1, 6):
                if field.size ** columns <= 1100:
                    found = tally([slow_rank(field, word) for word in all_words(field, columns)],
                                  columns)
                    told = tuple(words_of_rank(field.prime, field.degree, columns, rank)
                                 for rank in range(columns + 1))
                    self.assertEqual(told, found)

    def test_formula(self):
        for prime, degree, columns in SIZES:
            numbers = [words_of_rank(prime, degree, columns, rank) for rank in range(columns + 1)]
            for rank, number in enumerate(numbers):
                wanted = space_count(prime, columns, rank)
                for i in range(rank):
                    wanted *= prime ** degree - prime ** i
                self.assertEqual(number, wanted)
                self.assertEqual(number == 0, rank > degree)
            self.assertEqual(numbers[0], 1)
            self.assertEqual(sum(numbers), prime ** (degree * columns))

    def test_known(self):
        self.assertEqual([words_of_rank(2, 3, 3, rank) for rank in range(4)], [1, 49, 294, 168])
        self.assertEqual([words_of_rank(3, 1, 2, rank) for rank in range(3)], [1, 8, 0])

    def test_refused_rank(self):
        for rank in NO_INTEGERS + (-1, 4, 10 ** 139, -10 ** 139):
            self.refuses(BadSizes, {"what": "rank"}, words_of_rank, 2, 5, 3, rank)
        self.assertEqual(words_of_rank(2, 2, 3, 3), 0)


class RefusedSizesTest(Case):
    def told(self, what, *sizes):
        """Both functions refuse these sizes, also beside a wrong last number."""
        for function in (words_of_rank, met_counts):
            for last in (1, -1, None):
                self.refuses(BadSizes, {"what": what}, function, *sizes, last)

    def test_first_one_refused(self):
        for wrong in NO_INTEGERS + (0, -1, 13, 10 ** 139):
            self.told("prime", wrong, 3, 3)
            self.told("prime", wrong, None, None)
            self.told("degree", 2, wrong, 3)
            self.told("degree", 3, wrong, None)
            self.told("columns", 2, 12, wrong)
        for prime in (1, 4, 5, -2):
            self.told("prime", prime, 3, 3)

    def test_columns_above_the_degree(self):
        self.assertEqual(words_of_rank(2, 2, 3, 1), 21)
        self.refuses(BadSizes, {"what": "columns"}, met_counts, 2, 2, 3, 1)
        self.refuses(BadSizes, {"what": "columns"}, met_counts, 3, 1, 12, None)
        self.refuses(BadSizes, {"what": "columns"}, met_counts, 2, 12, 13, 1)
        self.assertEqual(met_counts(2, 12, 12, 13), (1,) + (0,) * 12)


class MetCountsTest(Case):
    def test_met_lots_gone_through(self):
        """Closed ones and others; from every member the others lie at these distances."""
        chance = rng(42)
        for field in FIELDS:
            for columns in range(1, field.degree + 1):
                for terms in range(1, columns + 1):
                    if field.size ** terms > 90:
                        continue
                    lot = PolyLot(field, random_points(chance, field, columns), terms)
                    told = met_counts(field.prime, field.degree, columns, lot.distance)
                    self.assertIs(type(told), tuple)
                    words = list(lot.all_members())
                    self.assertEqual(tally([slow_rank(field, word) for word in words], columns),
                                    told)
                    word = random_word(chance, field, columns)
                    other = Lot(field, columns, [word_sum(field, word, member) for member in words])
                    for one in other.members[::11]:
                        ranks = [slow_distance(field, one, member) for member in other]
                        self.assertEqual(tally(ranks, columns), told)

    def test_all_sizes(self):
        for prime, degree, columns in SIZES:
            if columns > degree:
                continue
            for distance in range(1, columns + 2):
                found = met_counts(prime, degree, columns, distance)
                self.assertEqual(len(found), columns + 1)
                self.assertEqual(found[:distance], (1,) + (0,) * (distance - 1))
                self.assertTrue(all(number >= 0 for number in found))
                self.assertEqual(sum(found), prime ** (degree * (columns - distance + 1)))

    def test_distance_1(self):
        for prime, degree, columns in SIZES:
            if columns <= degree:
                self.assertEqual(met_counts(prime, degree, columns, 1),
                                 tuple(words_of_rank(prime, degree, columns, rank)
                                       for rank in range(columns + 1)))

    def test_distance_columns_and_1(self):
        for prime, degree, columns in SIZES:
            if columns <= degree:
                self.assertEqual(met_counts(prime, degree, columns, columns + 1),
                                 (1,) + (0,) * columns)

    def test_known(self):
        self.assertEqual(met_counts(2, 3, 3, 3), (1, 0, 0, 7))
        self.assertEqual(met_counts(2, 3, 3, 2), (1, 0, 49, 14))
        self.assertEqual(met_counts(3, 2, 2, 2), (1, 0, 8))

    def test_refused_distance(self):
        for distance in NO_INTEGERS + (0, -1, 5, 10 ** 139, -10 ** 139):
            self.refuses(BadDistance, {}, met_counts, 2, 4, 3, distance)


class HeadOfThePartTest(Case):
    def test_counts_of_lots(self):
        """The counts of a lot tell how many members have each rank."""
        lot = PolyLot(EIGHT, (1, 2, 4), 1)
        self.assertEqual(tally([slow_rank(EIGHT, word) for word in lot.all_members()], 3),
                         met_counts(2, 3, 3, lot.distance))
        lot = PolyLot(NINE, (1, 3), 2)
        self.assertEqual(tally([slow_rank(NINE, word) for word in lot.all_members()], 2),
                         met_counts(3, 2, 2, lot.distance))


if __name__ == "__main__":
    unittest.main()
