"""Point [7.5]: the losses of whole lanes."""

import itertools
import unittest

from rankwords.covers import lane_cover, worst_change
from rankwords.errors import BadLane
from rankwords.lanes import lane_losses
from rankwords.losses import Losses, rest_rank
from rankwords.tables import table_of
from tests.support import (Case, EIGHT, FIELDS, NINE, NO_INTEGERS, NO_SEQUENCES, random_word, rng,
                           slow_hidden)


def samples(seed, many=3):
    """Fields, columns, and told rows and places, some of them twice."""
    chance = rng(seed)
    for field in FIELDS:
        for columns in range(1, field.degree + 1):
            for _ in range(many):
                rows = [chance.randrange(field.degree) for _ in range(chance.randrange(4))]
                places = [chance.randrange(columns) for _ in range(chance.randrange(4))]
                yield field, columns, tuple(rows), tuple(places)


def word_within(chance, field, columns, cells):
    """A random word whose table is 0 outside the cells."""
    word = [0] * columns
    for row, column in cells:
        word[column] += chance.randrange(field.prime) * field.prime ** row
    return tuple(word)


def told_cells(field, columns, rows, places):
    return [(row, column) for row in range(field.degree) for column in range(columns)
            if row in rows or column in places]


class LanesTest(Case):
    def test_losses(self):
        for field, columns, rows, places in samples(1):
            losses = lane_losses(field, columns, rows, places)
            self.assertIs(type(losses), Losses)
            units = [tuple(int(at == place) for at in range(columns)) for place in set(places)]
            things = [field.prime ** row for row in set(rows)]
            self.assertEqual(losses, Losses(field, columns, units, things))
            self.assertEqual(losses.many, len(set(rows)) + len(set(places)))
            self.assertEqual(losses, lane_losses(field, columns, list(rows), list(places)))

    def test_hidden(self):
        """What stands in told lanes is hidden, and of unit words nothing else."""
        chance = rng(2)
        for field, columns, rows, places in samples(2):
            losses = lane_losses(field, columns, rows, places)
            inside = told_cells(field, columns, rows, places)
            for _ in range(5):
                self.assertEqual(rest_rank(losses, word_within(chance, field, columns, inside)), 0)
            for row, column in told_cells(field, columns, range(field.degree), ()):
                word = [0] * columns
                word[column] = field.prime ** row
                self.assertEqual(rest_rank(losses, word), int((row, column) not in inside))

    def test_hidden_words_gone_through(self):
        losses = lane_losses(EIGHT, 2, [1], [0])
        wanted = {word for word in itertools.product(range(8), repeat=2)
                  if all(row == 1 or digits[1] == 0
                         for row, digits in enumerate(table_of(EIGHT, word)))}
        self.assertEqual(slow_hidden(losses), wanted)

    def test_greatest_rest_rank(self):
        """The fewest lanes of the cells in no told lane are the greatest rest rank."""
        chance = rng(3)
        for field, columns, rows, places in samples(3, 5):
            losses = lane_losses(field, columns, rows, places)
            whole = told_cells(field, columns, range(field.degree), ())
            cells = chance.sample(whole, chance.randrange(len(whole) + 1))
            left = [cell for cell in cells if cell[0] not in rows and cell[1] not in places]
            lanes = len(lane_cover(field, columns, left).apart)
            self.assertEqual(rest_rank(losses, worst_change(field, columns, left)), lanes)
            for _ in range(5):
                word = word_within(chance, field, columns, cells)
                self.assertLessEqual(rest_rank(losses, word), lanes)

    def test_edges(self):
        self.assertEqual(lane_losses(EIGHT, 3, (), ()), Losses(EIGHT, 3, (), ()))
        whole = lane_losses(EIGHT, 3, [0, 1, 2] * 5 + [0], [2, 1, 0] * 5 + [2])
        self.assertEqual(whole.many, 6)
        self.assertEqual(lane_losses(NINE, 2, [1], [1]), Losses(NINE, 2, [(0, 1)], [3]))
        word = random_word(rng(4), EIGHT, 3)
        self.assertEqual(rest_rank(whole, word), 0)

    def test_refused(self):
        for wrong in NO_SEQUENCES + ([0] * 17, (None,) * 17):
            self.refuses(BadLane, {"what": "rows"}, lane_losses, EIGHT, 2, wrong, None)
            self.refuses(BadLane, {"what": "rows"}, lane_losses, EIGHT, 2, wrong, [0])
            self.refuses(BadLane, {"what": "places"}, lane_losses, EIGHT, 2, [0], wrong)
        for number in NO_INTEGERS + (-1, 3, 10 ** 59, -10 ** 59):
            self.refuses(BadLane, {"what": "rows"}, lane_losses, EIGHT, 3, [2, number], [9])
            self.refuses(BadLane, {"what": "places"}, lane_losses, EIGHT, 3, [2], (2, number))
        # Rows are counted by the degree, places by the columns.
        self.refuses(BadLane, {"what": "places"}, lane_losses, EIGHT, 2, [2], [2])
        lane_losses(EIGHT, 2, [2], [1])

    def test_nothing_is_changed(self):
        rows, places = [2, 0, 2], [1, 1]
        lane_losses(EIGHT, 2, rows, places)
        self.assertEqual((rows, places), ([2, 0, 2], [1, 1]))


if __name__ == "__main__":
    unittest.main()
