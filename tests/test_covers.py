"""Points [7.1] to [7.4]: cells and the fewest lanes that hold them."""

import itertools
import unittest

from rankwords.covers import Cover, check_cells, cover_fault, lane_cover, worst_change
from rankwords.errors import BadCells
from rankwords.tables import table_of
from tests.support import (Case, EIGHT, FIELDS, FOUR, NINE, NO_INTEGERS, NO_SEQUENCES, SIXTEEN,
                           TWENTY_SEVEN, TWO, as_lists, rng, slow_rank)


def all_cells(field, columns):
    return [(row, column) for row in range(field.degree) for column in range(columns)]


def cell_lots(seed):
    """All lots of cells of small tables, and many of greater ones."""
    for field in FIELDS:
        for columns in range(1, field.degree + 1):
            cells = all_cells(field, columns)
            if len(cells) <= 6:
                for many in range(len(cells) + 1):
                    for lot in itertools.combinations(cells, many):
                        yield field, columns, lot
            else:
                chance = rng(seed)
                for _ in range(60):
                    yield field, columns, tuple(chance.sample(cells, chance.randrange(len(cells) + 1)))


def fewest_lanes(field, columns, cells):
    """The least number of lanes that hold the cells, by trying all sets of rows."""
    best = len(cells)
    for many in range(field.degree + 1):
        for rows in itertools.combinations(range(field.degree), many):
            best = min(best, many + len({c for r, c in cells if r not in rows}))
    return best


def most_apart(cells):
    """The most of the cells that are apart."""
    if not cells:
        return 0
    (row, column), rest = cells[0], cells[1:]
    beside = [(r, c) for r, c in rest if r != row and c != column]
    return max(most_apart(rest), 1 + most_apart(beside))


def is_zero_outside(field, word, cells):
    table = table_of(field, word)
    return all(digit == 0 or (row, column) in cells
               for row, digits in enumerate(table) for column, digit in enumerate(digits))


class CheckTest(Case):
    def test_sorted(self):
        cells = [(2, 1), [0, 1], (2, 0), [2, 1], (0, 1)]
        self.assertEqual(check_cells(EIGHT, 2, cells), ((0, 1), (2, 0), (2, 1)))
        self.assertEqual(check_cells(EIGHT, 2, ()), ())
        self.assertEqual(check_cells(EIGHT, 2, [(1, 1)] * 64), ((1, 1),))
        self.takes_lists(check_cells, SIXTEEN, 4, tuple(reversed(all_cells(SIXTEEN, 4))))

    def test_refused(self):
        for function in (check_cells, lane_cover, worst_change, self.judge):
            for cells in NO_SEQUENCES + (((0, 0),) * 65, [None] * 65):
                self.refuses(BadCells, {"index": -1}, function, EIGHT, 2, cells)
            for cell in NO_SEQUENCES + ((), (0,), (0, 0, 0), "00"):
                self.refuses(BadCells, {"index": 0}, function, EIGHT, 2, [cell, None])
                self.refuses(BadCells, {"index": 2}, function, EIGHT, 2, ((0, 0), [2, 1], cell))
            for number in NO_INTEGERS + (-1, 3, 10 ** 59):
                self.refuses(BadCells, {"index": 1}, function, EIGHT, 2, [(0, 0), (number, 0)])
                self.refuses(BadCells, {"index": 1}, function, EIGHT, 2, [(0, 0), (0, number), 5])
            self.refuses(BadCells, {"index": 0}, function, EIGHT, 2, [(0, 2)])
            self.refuses(BadCells, {"index": 0}, function, FOUR, 2, [(2, 0)])

    def judge(self, field, columns, cells):
        return cover_fault(field, columns, cells, Cover((), (), ()))


class CoverTest(Case):
    def check(self, field, columns, cells):
        cover = lane_cover(field, columns, cells)
        self.assertIs(type(cover), Cover)
        for numbers, limit in ((cover.rows, field.degree), (cover.columns, columns)):
            self.assertIs(type(numbers), tuple)
            self.assertEqual(list(numbers), sorted(set(numbers)))
            self.assertTrue(all(0 <= number < limit for number in numbers))
        self.assertTrue(all(r in cover.rows or c in cover.columns for r, c in cells))
        self.assertIs(type(cover.apart), tuple)
        self.assertEqual(list(cover.apart), sorted(cover.apart))
        self.assertTrue(all(cell in cells for cell in cover.apart))
        for places in zip(*cover.apart):
            self.assertEqual(len(set(places)), len(cover.apart))
        self.assertEqual(len(cover.apart), len(cover.rows) + len(cover.columns))
        self.assertEqual(len(cover.apart), fewest_lanes(field, columns, cells))
        self.assertIsNone(cover_fault(field, columns, cells, cover))

    def test_lots_of_cells(self):
        for field, columns, cells in cell_lots(1):
            self.check(field, columns, cells)
            self.assertEqual(most_apart(cells), fewest_lanes(field, columns, cells))

    def test_orders_and_doubles(self):
        chance = rng(2)
        for field, columns, cells in itertools.islice(cell_lots(3), 0, None, 5):
            mixed = [list(cell) for cell in cells + cells]
            chance.shuffle(mixed)
            self.assertEqual(vars(lane_cover(field, columns, mixed)),
                             vars(lane_cover(field, columns, sorted(cells))))

    def test_edges(self):
        for field in FIELDS:
            for columns in range(1, field.degree + 1):
                self.assertEqual(vars(lane_cover(field, columns, ())),
                                 {"rows": (), "columns": (), "apart": ()})
                self.assertEqual(len(lane_cover(field, columns, all_cells(field, columns)).apart),
                                 columns)
        self.takes_lists(lambda cells: lane_cover(EIGHT, 3, cells), ((2, 0), (0, 1), (0, 0)))

    def test_ways_that_must_change_columns(self):
        """Cells whose columns cannot be taken one after the other in their order."""
        for cells in (((0, 0), (0, 1), (1, 0)), ((0, 0), (1, 0), (1, 1), (2, 1), (2, 2), (3, 2)),
                      ((0, 0), (0, 1), (1, 0), (1, 2), (2, 0), (3, 1)),
                      ((0, 3), (1, 3), (2, 3), (3, 3), (3, 0), (3, 1))):
            self.check(SIXTEEN, 4, cells)

    def test_all_lots_of_nine_cells(self):
        cells = all_cells(EIGHT, 3)
        for number in range(512):
            self.check(EIGHT, 3, tuple(cell for bit, cell in enumerate(cells) if number >> bit & 1))

    def test_result(self):
        values = [[1], object(), "any"]
        cover = Cover(*values)
        self.assertEqual(vars(cover), dict(zip(("rows", "columns", "apart"), values)))
        self.assertIs(cover.rows, values[0])
        self.assertEqual(Cover(1, 2, 3), Cover(1, 2, 3))
        for told in ((0, 2, 3), (1, 0, 3), (1, 2, 0)):
            self.assertFalse(Cover(1, 2, 3) == Cover(*told))
        self.assertFalse(Cover(1, 2, 3) == (1, 2, 3))


class FaultTest(Case):
    CELLS = ((0, 0), (0, 1), (1, 0), (2, 0))

    def fault(self, *told):
        return cover_fault(EIGHT, 3, self.CELLS, Cover(*told))

    def test_right(self):
        self.assertIsNone(self.fault((0,), (0,), ((0, 1), (1, 0))))
        self.assertIsNone(self.fault((0,), (0,), ((2, 0), (0, 1))))
        self.assertIsNone(self.fault((0,), (0,), ([0, 1], [2, 0])))
        self.assertIsNone(self.fault((), (1, 0), ((0, 1), (1, 0))))
        self.assertIsNone(cover_fault(EIGHT, 3, [[1, 2]], Cover((), (2,), ((1, 2),))))
        self.assertIsNone(cover_fault(EIGHT, 3, [], Cover((), (), ())))

    def test_hold(self):
        self.assertEqual(self.fault((), (), ()), "hold")
        self.assertEqual(self.fault((0,), (), ((0, 1), (1, 0))), "hold")
        self.assertEqual(self.fault((), (0,), ((0, 1), (1, 0))), "hold")
        self.assertEqual(self.fault((0, 1), (1, 2), ((9, 9),)), "hold")

    def test_apart(self):
        self.assertEqual(self.fault((0,), (0,), ((0, 1), (1, 1))), "apart")
        self.assertEqual(self.fault((0,), (0,), ((0, 0), (0, 1))), "apart")
        self.assertEqual(self.fault((0,), (0,), ((1, 0), (2, 0))), "apart")
        self.assertEqual(self.fault((0,), (0,), ((0, 1), (0, 1))), "apart")
        self.assertEqual(self.fault((0,), (0,), ((0, 1), (1, 0), (2, 0))), "apart")
        self.assertEqual(self.fault((0, 5), (0,), ((9, 9),)), "apart")

    def test_many(self):
        self.assertEqual(self.fault((0,), (0,), ((0, 1),)), "many")
        self.assertEqual(self.fault((0,), (0,), ()), "many")
        self.assertEqual(self.fault((0, 1, 2), (), ((0, 1), (1, 0))), "many")
        self.assertEqual(self.fault((0,), (0, 1), ((0, 1), (1, 0))), "many")
        self.assertEqual(self.fault((0, 0), (0,), ((0, 1), (1, 0))), "many")
        self.assertEqual(cover_fault(EIGHT, 3, (), Cover((1,), (), ())), "many")

    def test_lanes_are_not_checked_otherwise(self):
        self.assertEqual(self.fault((0, 9), (0,), ((0, 1), (1, 0))), "many")
        self.assertIsNone(cover_fault(EIGHT, 3, [(1, 0), (0, 1)],
                                      Cover((1, 0), (), ((1, 0), (0, 1)))))

    def test_nothing_is_changed(self):
        cells = as_lists(self.CELLS)
        cover = Cover((0,), (0,), ((0, 1), (1, 0)))
        cover_fault(EIGHT, 3, cells, cover)
        self.assertEqual(cells, as_lists(self.CELLS))
        self.assertEqual(vars(cover), {"rows": (0,), "columns": (0,), "apart": ((0, 1), (1, 0))})


class WorstTest(Case):
    def test_lots_of_cells(self):
        for field, columns, cells in cell_lots(4):
            word = worst_change(field, columns, cells)
            self.assertEqual(len(word), columns)
            self.assertTrue(is_zero_outside(field, word, cells))
            self.assertEqual(slow_rank(field, word), fewest_lanes(field, columns, cells))
            self.takes_lists(lambda cells: worst_change(field, columns, cells), cells)

    def test_greatest_rank(self):
        """No word that is 0 outside the cells has a greater rank."""
        chance = rng(5)
        for field, columns, cells in itertools.islice(cell_lots(6), 0, None, 7):
            most = slow_rank(field, worst_change(field, columns, cells))
            for _ in range(10):
                word = [0] * columns
                for row, column in cells:
                    word[column] += chance.randrange(field.prime) * field.prime ** row
                self.assertLessEqual(slow_rank(field, word), most)

    def test_edges(self):
        self.assertEqual(worst_change(TWO, 1, ()), (0,))
        self.assertEqual(worst_change(TWENTY_SEVEN, 3, []), (0, 0, 0))
        self.assertEqual(slow_rank(NINE, worst_change(NINE, 2, all_cells(NINE, 2))), 2)


if __name__ == "__main__":
    unittest.main()
