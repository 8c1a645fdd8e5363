"""Points [6.1] to [6.5]: losses, hidden words and rest ranks."""

import unittest

from rankwords.counting import table_count
from rankwords.errors import BadLoss, BadWord, Unlike
from rankwords.losses import (Losses, joined_losses, parts_fault, parts_of, rest_rank,
                              rest_rank_count)
from rankwords.spacepolys import poly_of_space
from rankwords.spaces import contrary, echelon, things_space
from rankwords.tables import rank_of, table_of, times_table
from tests.support import (Case, EIGHT, FIELDS, FOUR, NINE, NO_INTEGERS, NO_SEQUENCES, SIXTEEN,
                           TWENTY_SEVEN, all_words, random_losses, random_rows, random_word, rng,
                           slow_hidden, slow_less, slow_rank, slow_rest_rank, slow_value,
                           spanned_rows, spanned_things, tally)


def samples(seed, many=3):
    chance = rng(seed)
    for field in FIELDS:
        for columns in range(1, field.degree + 1):
            for _ in range(many):
                yield field, columns, random_losses(chance, field, columns)


def small(field, columns):
    """Whether all words can be gone through."""
    return field.size ** columns <= 729


def by_rest_rank(losses):
    """The rest ranks of all words, from the hidden words."""
    hidden = slow_hidden(losses)
    return {word: slow_rest_rank(losses, word, hidden)
            for word in all_words(losses.field, losses.columns)}


class LossesTest(Case):
    def test_attributes(self):
        chance = rng(1)
        for field in FIELDS:
            for columns in range(1, field.degree + 1):
                rows = random_rows(chance, field.prime, columns, 16)
                things = random_word(chance, field, chance.randrange(17))
                losses = Losses(field, columns, rows, things)
                self.assertEqual((losses.field, losses.columns), (field, columns))
                self.assertEqual(losses.rows, echelon(field.prime, columns, rows))
                self.assertEqual(losses.things, things_space(field, things))
                self.assertEqual(losses.many, len(losses.rows) + len(losses.things))
                listed = Losses(field, columns, [list(row) for row in rows], list(things))
                self.assertEqual(listed, losses)
                self.assertTrue(all(type(row) is tuple for row in listed.rows))
                self.assertIs(type(listed.things), tuple)

    def test_edges(self):
        losses = Losses(EIGHT, 3, (), ())
        self.assertEqual((losses.rows, losses.things, losses.many), ((), (), 0))
        losses = Losses(EIGHT, 2, [(0, 0)] * 16, [0] * 16)
        self.assertEqual((losses.rows, losses.things, losses.many), ((), (), 0))
        losses = Losses(EIGHT, 2, [(1, 1), (0, 1)] * 8, [7, 3, 6, 4] * 4)
        self.assertEqual((losses.rows, losses.things), (((1, 0), (0, 1)), (1, 2, 4)))
        self.assertEqual(losses.many, 5)
        self.assertIsInstance(type(losses).many, property)

    def test_copies(self):
        rows, things = [[1, 1]], [3]
        losses = Losses(EIGHT, 2, rows, things)
        rows[0][1] = 0
        rows.append([0, 1])
        things.append(1)
        self.assertEqual((losses.rows, losses.things, losses.many), (((1, 1),), (3,), 2))

    def test_equal(self):
        losses = Losses(FOUR, 2, [(1, 0)], [3])
        self.assertEqual(losses, Losses(FOUR, 2, ([1, 0], [0, 0]), (3, 3, 0)))
        for other in (Losses(FOUR, 2, [(1, 1)], [3]), Losses(FOUR, 2, [(1, 0)], [2]),
                      Losses(EIGHT, 2, [(1, 0)], [3]), None, 2):
            self.assertFalse(losses == other)
            self.assertTrue(losses != other)
        self.assertNotEqual(Losses(EIGHT, 2, (), ()), Losses(EIGHT, 3, (), ()))

    def test_columns(self):
        for columns in NO_INTEGERS + (0, -1, 4, 10 ** 59):
            self.refuses(BadLoss, {"what": "columns"}, Losses, EIGHT, columns, None, None)
            self.refuses(BadLoss, {"what": "columns"}, Losses, EIGHT, columns, (), ())

    def test_rows(self):
        for rows in NO_SEQUENCES + ([(0, 0)] * 17, [None] * 17):
            self.refuses(BadLoss, {"what": "rows"}, Losses, EIGHT, 2, rows, None)
        for row in NO_SEQUENCES + ((), (1,), (1, 0, 0)):
            self.refuses(BadLoss, {"what": "rows"}, Losses, EIGHT, 2, [(1, 1), row], [9])
        for digit in NO_INTEGERS + (-1, 2):
            self.refuses(BadLoss, {"what": "rows"}, Losses, EIGHT, 2, [(digit, 1)], ())
        Losses(NINE, 2, [(2, 1)], ())

    def test_things(self):
        for things in NO_SEQUENCES + ((0,) * 17,):
            self.refuses(BadLoss, {"what": "things"}, Losses, EIGHT, 2, (), things)
        for thing in NO_INTEGERS + (-1, 8):
            self.refuses(BadLoss, {"what": "things"}, Losses, EIGHT, 2, [(0, 1)], [7, thing])


class RestRankTest(Case):
    def test_gone_through(self):
        for field, columns, losses in samples(2):
            if small(field, columns) and field.size ** columns * len(slow_hidden(losses)) <= 20000:
                for word, rank in by_rest_rank(losses).items():
                    self.assertEqual(rest_rank(losses, word), rank)

    def test_samples(self):
        chance = rng(3)
        for field, columns, losses in samples(3):
            if small(field, columns):
                hidden = slow_hidden(losses)
                for _ in range(3):
                    word = random_word(chance, field, columns)
                    self.assertEqual(rest_rank(losses, word), slow_rest_rank(losses, word, hidden))
                    self.assertEqual(rest_rank(losses, list(word)), rest_rank(losses, word))

    def test_by_poly_and_table(self):
        """The rank of the word after the poly of the things and a table of the contrary of rows."""
        chance = rng(4)
        for field, columns, losses in samples(4):
            zeros = poly_of_space(field, losses.things)
            outside = contrary(field.prime, columns, losses.rows)
            table = [[row[place] for row in outside] for place in range(columns)]
            for _ in range(4):
                word = random_word(chance, field, columns)
                values = [slow_value(field, zeros, thing) for thing in word]
                self.assertEqual(rest_rank(losses, word), rank_of(field, times_table(field, values, table)))

    def test_bounds(self):
        chance = rng(5)
        for field, columns, losses in samples(5):
            for _ in range(4):
                word = random_word(chance, field, columns)
                rank = slow_rank(field, word)
                self.assertTrue(rank - losses.many <= rest_rank(losses, word) <= rank)

    def test_nothing_lost_and_all_lost(self):
        chance = rng(6)
        for field in FIELDS:
            for columns in range(1, field.degree + 1):
                word = random_word(chance, field, columns)
                units = [[int(at == place) for at in range(columns)] for place in range(columns)]
                things = [field.prime ** place for place in range(field.degree)]
                self.assertEqual(rest_rank(Losses(field, columns, (), ()), word),
                                 slow_rank(field, word))
                for losses in (Losses(field, columns, units, ()), Losses(field, columns, (), things),
                               Losses(field, columns, units, things)):
                    self.assertEqual(rest_rank(losses, word), 0)

    def test_hidden(self):
        """0 is the rest rank of just the hidden words."""
        losses = Losses(EIGHT, 3, [(1, 0, 0)], [3])
        self.assertEqual(rest_rank(losses, (5, 3, 0)), 0)
        self.assertEqual(rest_rank(losses, (5, 3, 3)), 0)
        self.assertEqual(rest_rank(losses, (5, 3, 1)), 1)
        self.assertEqual(rest_rank(losses, (0, 1, 4)), 2)

    def test_refused(self):
        losses = Losses(EIGHT, 2, [(1, 0)], [3])
        for function in (rest_rank, parts_of):
            for word in NO_SEQUENCES + ((), (1,), (1, 2, 3)):
                self.refuses(BadWord, {"index": -1}, function, losses, word)
            for thing in NO_INTEGERS + (-1, 8):
                self.refuses(BadWord, {"index": 0}, function, losses, (thing, None))
                self.refuses(BadWord, {"index": 1}, function, losses, [0, thing])


class CountTest(Case):
    def test_gone_through(self):
        for field, columns, losses in samples(7):
            if small(field, columns) and field.size ** columns * len(slow_hidden(losses)) <= 20000:
                wanted = tally(by_rest_rank(losses).values(), columns)
                self.assertEqual(tuple(rest_rank_count(losses, rank)
                                       for rank in range(columns + 1)), wanted)

    def test_sums(self):
        for field, columns, losses in samples(8):
            counts = [rest_rank_count(losses, rank) for rank in range(-3, 12)]
            self.assertEqual(sum(counts), field.size ** columns)
            rows, things = len(losses.rows), len(losses.things)
            hidden = field.degree * rows + columns * things - rows * things
            for rank in range(columns + 1):
                self.assertEqual(counts[rank + 3], field.prime ** hidden
                                 * table_count(field.prime, field.degree - things, columns - rows, rank))

    def test_beyond(self):
        losses = Losses(EIGHT, 3, [(1, 0, 0)], [1])
        for rank in (-1, -2, -40, 3, 4, 41, 10 ** 59, -10 ** 59):
            self.assertEqual(rest_rank_count(losses, rank), 0)
        self.assertEqual([rest_rank_count(losses, rank) for rank in (0, 1, 2)], [32, 288, 192])
        whole = Losses(EIGHT, 1, [(1,)], [1, 2, 4])
        self.assertEqual([rest_rank_count(whole, rank) for rank in (-1, 0, 1)], [0, 8, 0])


class PartsTest(Case):
    def check(self, losses, error, parts):
        field, columns = losses.field, losses.columns
        by_rows, by_things, rest = parts
        total = tuple(map(field.plus, map(field.plus, by_rows, by_things), rest))
        self.assertEqual(total, error)
        rows = spanned_rows(field.prime, columns, losses.rows)
        self.assertTrue(all(row in rows for row in table_of(field, by_rows)))
        things = spanned_things(field, losses.things)
        self.assertTrue(all(thing in things for thing in by_things))
        self.assertEqual(slow_rank(field, rest), rest_rank(losses, error))

    def test_parts(self):
        chance = rng(9)
        for field, columns, losses in samples(9):
            for _ in range(4):
                error = random_word(chance, field, columns)
                parts = parts_of(losses, error)
                self.check(losses, error, parts)
                self.assertIsNone(parts_fault(losses, error, parts))
                self.assertIsNone(parts_fault(losses, list(error), [list(part) for part in parts]))
                self.takes_lists(lambda e: parts_of(losses, e), error)

    def test_other_right_parts(self):
        losses = Losses(EIGHT, 3, [(1, 0, 0)], [3])
        for parts in (((6, 0, 0), (3, 3, 0), (0, 0, 1)), ((5, 0, 0), (0, 3, 0), (0, 0, 1)),
                      ((5, 0, 0), [0, 3, 3], (0, 0, 2)), [(4, 0, 0), (0, 3, 0), (1, 0, 1)]):
            self.assertIsNone(parts_fault(losses, (5, 3, 1), parts))

    def test_sum(self):
        losses = Losses(EIGHT, 2, [(1, 0)], [3])
        zero = (0, 0)
        for parts in NO_SEQUENCES + ((), (zero, zero), (zero, zero, zero, (5, 3)), (zero,) * 3,
                                     ((5, 0), (0, 3), (0, 1)), ((5, 0), (0, 3), (0,))):
            self.assertEqual(parts_fault(losses, (5, 3), parts), "sum")
        for part in NO_SEQUENCES + ((0, 0, 0), (8, 0), (True, 0), (0, None), (0, -1)):
            for place in range(3):
                parts = [(5, 0), (0, 3), (0, 0)]
                parts[place] = part
                self.assertEqual(parts_fault(losses, (5, 3), parts), "sum")

    def test_words_in_their_order(self):
        losses = Losses(EIGHT, 2, [(1, 0)], [3])
        self.assertEqual(parts_fault(losses, (5, 1), ((4, 1), (1, 0), (0, 0))), "rows")
        self.assertEqual(parts_fault(losses, (5, 1), ((5, 0), (0, 1), (0, 0))), "things")
        self.assertEqual(parts_fault(losses, (5, 1), ((0, 0), (3, 0), (6, 1))), "rest")
        self.assertIsNone(parts_fault(losses, (5, 1), ((5, 0), (0, 0), (0, 1))))
        self.assertIsNone(parts_fault(losses, (5, 1), ((6, 0), (3, 3), (0, 2))))

    def test_fault_of_all_parts(self):
        """All triples of words of a small field, judged by the words of the point."""
        losses = Losses(FOUR, 2, [(1, 1)], [2])
        error = (1, 2)
        for one in all_words(FOUR, 2):
            for two in all_words(FOUR, 2):
                three = slow_less(FOUR, slow_less(FOUR, error, one), two)
                wanted = None
                if one[0] != one[1]:
                    wanted = "rows"
                elif not set(two) <= {0, 2}:
                    wanted = "things"
                elif slow_rank(FOUR, three) != slow_rest_rank(losses, error):
                    wanted = "rest"
                self.assertEqual(parts_fault(losses, error, (one, two, three)), wanted)

    def test_error_is_checked_first(self):
        losses = Losses(EIGHT, 2, [(1, 0)], [3])
        for error in NO_SEQUENCES + ((), (1,), (1, 2, 3)):
            self.refuses(BadWord, {"index": -1}, parts_fault, losses, error, None)
        for thing in NO_INTEGERS + (-1, 8):
            self.refuses(BadWord, {"index": 1}, parts_fault, losses, (0, thing), None)


class JoinedTest(Case):
    def test_joined(self):
        chance = rng(10)
        for field, columns, one in samples(10):
            other = random_losses(chance, field, columns)
            joined = joined_losses(one, other)
            self.assertIs(type(joined), Losses)
            self.assertEqual(joined, Losses(field, columns, one.rows + other.rows,
                                            one.things + other.things))
            for _ in range(4):
                first, second = [random_word(chance, field, columns) for _ in range(2)]
                rank, more = rest_rank(one, first), rest_rank(joined, first)
                self.assertTrue(rank - (joined.many - one.many) <= more <= rank)
                total = tuple(map(field.plus, first, second))
                self.assertLessEqual(rest_rank(joined, total), rank + rest_rank(other, second))

    def test_edges(self):
        nothing = Losses(SIXTEEN, 4, (), ())
        whole = Losses(SIXTEEN, 4, [[int(at == place) for at in range(4)] for place in range(4)],
                       [1, 2, 4, 8])
        self.assertEqual(joined_losses(nothing, whole), whole)
        self.assertEqual(joined_losses(whole, whole), whole)
        self.assertEqual(joined_losses(nothing, nothing), nothing)

    def test_unlike(self):
        losses = Losses(EIGHT, 2, [(1, 0)], [3])
        for other in (Losses(EIGHT, 3, (), ()), Losses(FOUR, 2, [(1, 0)], [3]),
                      Losses(TWENTY_SEVEN, 2, (), ())):
            self.refuses(Unlike, {}, joined_losses, losses, other)
            self.refuses(Unlike, {}, joined_losses, other, losses)


if __name__ == "__main__":
    unittest.main()
