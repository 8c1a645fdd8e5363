"""Points [1.9] and [1.10]."""

import itertools
import unittest

from rankwords.errors import BadTable, BadWord, Unlike
from rankwords.spaces import echelon, row_rank, things_space
from rankwords.tables import (check_word, digits_of_word, rank_distance, rank_of, rows_space,
                              scaled_word, stepped_word, table_of, times_table, word_less,
                              word_of_digits, word_of_table, word_sum)
from tests.support import (Case, EIGHT, FIELDS, FOUR, NINE, NO_INTEGERS, NO_SEQUENCES, SIXTEEN,
                           TWENTY_SEVEN, TWO, all_words, random_word, rng, slow_rank)


def samples():
    """Words of 0 to 8 things of each field, also longer than its degree."""
    chance = rng(19)
    for field in FIELDS:
        for columns in range(9):
            for _ in range(4):
                yield field, random_word(chance, field, columns)


def couples():
    chance = rng(20)
    for field, word in samples():
        yield field, word, random_word(chance, field, len(word))


class CheckWordTest(Case):
    def test_good_words(self):
        for field in FIELDS:
            for columns in range(1, field.degree + 1):
                word = tuple(field.size - 1 - at for at in range(columns))
                self.assertEqual(check_word(field, word), word)
                self.assertEqual(check_word(field, list(word), columns), word)
                self.assertEqual(check_word(field, word, columns=None), word)

    def test_keeps_a_copy(self):
        word = [1, 2]
        found = check_word(FOUR, word)
        word[0] = 3
        self.assertEqual(found, (1, 2))

    def test_length(self):
        for word in ((), (0, 0, 0), [1] * 9, (7, 7, 7)):
            self.refuses(BadWord, {"index": -1}, check_word, FOUR, word)
        self.refuses(BadWord, {"index": -1}, check_word, TWO, (1, 1))
        for columns, word in ((1, (1, 2)), (2, (1,)), (3, (1, 2)), (2, (9,)), (0, ()), (5, (0,) * 5)):
            self.refuses(BadWord, {"index": -1}, check_word, EIGHT, word, columns)
        self.refuses(BadWord, {"index": -1}, check_word, EIGHT, (1, 2, 3, 4))

    def test_no_sequence(self):
        for word in NO_SEQUENCES:
            self.refuses(BadWord, {"index": -1}, check_word, FOUR, word)

    def test_items(self):
        for thing in NO_INTEGERS + (-1, 8, 10 ** 59):
            self.refuses(BadWord, {"index": 0}, check_word, EIGHT, (thing, None, 8))
            self.refuses(BadWord, {"index": 2}, check_word, EIGHT, [7, 0, thing], 3)


class TableTest(Case):
    def test_digits_stand_in_columns(self):
        for field, word in samples():
            table = table_of(field, word)
            self.assertEqual(len(table), field.degree)
            for row in table:
                self.assertEqual(len(row), len(word))
            for place, thing in enumerate(word):
                column = tuple(row[place] for row in table)
                self.assertEqual(column, field.digits_of(thing))

    def test_known(self):
        self.assertEqual(table_of(FOUR, (1, 3)), ((1, 1), (0, 1)))
        self.assertEqual(table_of(TWENTY_SEVEN, (5,)), ((2,), (1,), (0,)))
        self.assertEqual(table_of(EIGHT, ()), ((), (), ()))

    def test_back(self):
        for field, word in samples():
            if 1 <= len(word) <= field.degree:
                self.assertEqual(word_of_table(field, table_of(field, word)), word)
        self.assertEqual(word_of_table(EIGHT, [[1], [1], [0]]), (3,))

    def test_refused_tables(self):
        good = (1, 0)
        wrong = NO_SEQUENCES + (
            (), (good,), (good, good, good), (good, (1,)), ((1,), good), (good, ()), ((), ()),
            (good, (1, 2)), (good, (-1, 0)), ((0, 0, 0), (1, 1, 1)), (good, None), ("10", good))
        wrong += tuple((good, (digit, 1)) for digit in NO_INTEGERS)
        for table in wrong:
            self.refuses(BadTable, {}, word_of_table, FOUR, table)
        self.assertEqual(word_of_table(NINE, ((2, 1), (1, 2))), (5, 7))
        self.refuses(BadTable, {}, word_of_table, NINE, ((2, 1), (1, 3)))

    def test_flat_row(self):
        for field, word in samples():
            row = digits_of_word(field, word)
            self.assertEqual(row, tuple(digit for thing in word for digit in field.digits_of(thing)))
            self.assertEqual(word_of_digits(field, row), word)
            self.assertEqual(word_of_digits(field, list(row)), word)
        self.assertEqual(digits_of_word(EIGHT, (1, 6)), (1, 0, 0, 0, 1, 1))
        self.assertEqual(digits_of_word(EIGHT, ()), ())
        self.assertEqual(word_of_digits(EIGHT, ()), ())


class WordsTest(Case):
    def test_sums(self):
        for field, one, other in couples():
            self.assertEqual(word_sum(field, one, other),
                             tuple(field.plus(a, b) for a, b in zip(one, other)))
            self.assertEqual(word_less(field, one, other),
                             tuple(field.minus(a, b) for a, b in zip(one, other)))
        self.assertEqual(word_less(NINE, (0, 1), (1, 0)), (2, 1))

    def test_unlike(self):
        for function in (word_sum, word_less, rank_distance):
            for one, other in (((), (1,)), ((1, 2), (1,)), ([1], [1, 2, 3]), ((0,) * 8, (0,) * 7)):
                self.refuses(Unlike, {}, function, FOUR, one, other)
            function(FOUR, (), ())

    def test_scaled_and_stepped(self):
        for field, word in samples():
            for thing in (0, 1, field.size - 1):
                self.assertEqual(scaled_word(field, thing, word),
                                 tuple(field.times(thing, item) for item in word))
            for times in (0, 1, -1, 7, -10 ** 29, 10 ** 30 - 1):
                self.assertEqual(stepped_word(field, word, times),
                                 tuple(field.stepped(item, times) for item in word))

    def test_lists(self):
        for function in (word_sum, word_less, rank_distance):
            self.takes_lists(function, NINE, (1, 5), (7, 2))
        for function in (table_of, digits_of_word, rank_of, rows_space, check_word):
            self.takes_lists(function, NINE, (1, 5))
        self.takes_lists(scaled_word, NINE, 3, (1, 5))
        self.takes_lists(stepped_word, NINE, (1, 5), 1)
        self.takes_lists(word_of_digits, NINE, (1, 0, 2, 1))
        self.takes_lists(word_of_table, NINE, ((1, 0), (2, 1)))
        self.takes_lists(times_table, NINE, (1, 5), ((1, 0, 2), (2, 1, 0)))


class RankTest(Case):
    def test_rank(self):
        for field, word in samples():
            rank = slow_rank(field, word)
            self.assertEqual(rank_of(field, word), rank)
            self.assertEqual(rank, len(things_space(field, word)))
            self.assertEqual(rank, row_rank(field.prime, len(word), table_of(field, word)))

    def test_known(self):
        self.assertEqual(rank_of(FOUR, (1, 2)), 2)
        self.assertEqual(rank_of(FOUR, (3, 3)), 1)
        self.assertEqual(rank_of(NINE, (1, 2)), 1)
        self.assertEqual([rank_of(SIXTEEN, ()), rank_of(SIXTEEN, (0, 0))], [0, 0])
        self.assertEqual(rank_of(FOUR, (1, 2, 3, 1, 0, 2, 3, 3)), 2)

    def test_rows_space(self):
        for field, word in samples():
            self.assertEqual(rows_space(field, word),
                             echelon(field.prime, len(word), table_of(field, word)))
        self.assertEqual(rows_space(FOUR, (1, 3)), ((1, 0), (0, 1)))
        self.assertEqual(rows_space(FOUR, (0, 2)), ((0, 1),))
        self.assertEqual(rows_space(FOUR, ()), ())

    def test_distance(self):
        for field, one, other in couples():
            less = word_less(field, one, other)
            self.assertEqual(rank_distance(field, one, other), slow_rank(field, less))
            self.assertEqual(rank_distance(field, one, one), 0)

    def test_sums_scaling_and_steps(self):
        for field, one, other in couples():
            rank = rank_of(field, one)
            self.assertLessEqual(rank_of(field, word_sum(field, one, other)),
                                 rank + rank_of(field, other))
            for thing in range(1, field.size):
                self.assertEqual(rank_of(field, scaled_word(field, thing, one)), rank)
            for times in (1, -1, 5):
                self.assertEqual(rank_of(field, stepped_word(field, one, times)), rank)


class MixedTest(Case):
    def random_table(self, chance, prime, tall, wide):
        return tuple(tuple(chance.randrange(prime) for _ in range(wide)) for _ in range(tall))

    def test_things(self):
        chance = rng(21)
        for field, word in samples():
            for wide in range(9):
                table = self.random_table(chance, field.prime, len(word), wide)
                mixed = times_table(field, word, table)
                if not word:
                    self.assertEqual(mixed, ())
                    continue
                self.assertEqual(len(mixed), wide)
                for j, thing in enumerate(mixed):
                    total = 0
                    for i, item in enumerate(word):
                        total = field.plus(total, field.multiple(table[i][j], item))
                    self.assertEqual(thing, total)
                self.assertLessEqual(rank_of(field, mixed), rank_of(field, word))

    def test_no_digits(self):
        self.assertEqual(times_table(FOUR, (1, 2), ((), ())), ())
        self.assertEqual(times_table(FOUR, (), ()), ())
        self.assertEqual(times_table(FOUR, [3] * 8, [[]] * 8), ())

    def test_invertible_tables_keep_the_rank(self):
        rows = list(itertools.product(range(3), repeat=2))
        tables = [table for table in itertools.product(rows, repeat=2) if row_rank(3, 2, table) == 2]
        self.assertEqual(len(tables), 48)
        for word in all_words(NINE, 2):
            for table in tables:
                self.assertEqual(rank_of(NINE, times_table(NINE, word, table)), rank_of(NINE, word))

    def test_known(self):
        self.assertEqual(times_table(FOUR, (1, 2), ((1, 0, 1), (1, 1, 0))), (3, 2, 1))
        self.assertEqual(times_table(NINE, (1,), ((2, 1, 0),)), (2, 1, 0))


if __name__ == "__main__":
    unittest.main()
