"""Points [7.6] to [7.9]: stores."""

import copy
import unittest

from rankwords.covers import worst_change
from rankwords.errors import BadCells, BadLane, BadPoly, TooSpoilt
from rankwords.lanes import lane_losses
from rankwords.lostreads import read_lost
from rankwords.polylots import PolyLot
from rankwords.reading import Far, Read, read_word
from rankwords.stores import Store
from rankwords.tables import table_of
from tests.support import (Case, EIGHT, FOUR, NINE, NO_INTEGERS, NO_SEQUENCES, SIXTEEN,
                           TWENTY_SEVEN, poly_lots, random_poly, rng, slow_value)

LOT = PolyLot(EIGHT, (1, 2, 4), 1)


def stores(seed, many=1):
    """Stores of all poly lots in which a random poly is written."""
    chance = rng(seed)
    for polylot in poly_lots(seed, many):
        store = Store(polylot)
        store.write(random_poly(chance, polylot.field, polylot.terms))
        yield chance, store


def state(store):
    return store.polylot, store.written, store.shown


def random_cells(chance, polylot):
    cells = [(row, column) for row in range(polylot.field.degree)
             for column in range(polylot.columns)]
    return chance.sample(cells, chance.randrange(min(len(cells), 6) + 1))


def random_deeds(chance, polylot, cells):
    return [(row, column, chance.randrange(polylot.field.prime)) for row, column in cells]


def slow_lanes(cells):
    """The fewest lanes that hold the cells, by all choices of a row or a column for the first."""
    if not cells:
        return 0
    row, column = cells[0]
    return 1 + min(slow_lanes([cell for cell in cells if cell[0] != row]),
                   slow_lanes([cell for cell in cells if cell[1] != column]))


def random_lanes(chance, polylot):
    rows = [chance.randrange(polylot.field.degree) for _ in range(chance.randrange(3))]
    return rows, [chance.randrange(polylot.columns) for _ in range(chance.randrange(3))]


def left_cells(cells, rows, places):
    return [cell for cell in cells if cell[0] not in rows and cell[1] not in places]


class WriteTest(Case):
    def test_new(self):
        for polylot in poly_lots(1):
            store = Store(polylot)
            self.assertIs(store.polylot, polylot)
            self.assertEqual((store.written, store.shown), ((), (0,) * polylot.columns))
            self.assertEqual((store.spoilt_cells(), store.spoilt_lanes()), ((), 0))

    def test_properties(self):
        for name in ("written", "shown"):
            self.assertIsInstance(vars(Store)[name], property)

    def test_write(self):
        chance = rng(2)
        for polylot in poly_lots(2):
            store = Store(polylot)
            for _ in range(3):
                poly = random_poly(chance, polylot.field, polylot.terms)
                self.assertIsNone(store.write(list(poly)))
                word = tuple(slow_value(polylot.field, poly, point) for point in polylot.points)
                self.assertEqual((store.written, store.shown), (poly, word))
                self.assertIs(type(store.written), tuple)
                store.spoil([(0, 0, 1)])

    def test_write_over_spoilt_cells(self):
        store = Store(LOT)
        store.spoil([(0, 0, 1), (1, 1, 1), (2, 2, 1)])
        store.write((1,))
        self.assertEqual((store.shown, store.spoilt_cells()), ((1, 2, 4), ()))

    def test_copies(self):
        store, poly = Store(LOT), [1]
        store.write(poly)
        poly[0] = 5
        poly.append(7)
        self.assertEqual((store.written, store.shown), ((1,), (1, 2, 4)))

    def test_refused(self):
        store = Store(PolyLot(EIGHT, (1, 2, 4), 2))
        store.write((3, 5))
        store.spoil([(0, 0, 1), (1, 1, 1)])
        before = state(store)
        for poly in NO_SEQUENCES + ((1, 2, 3), [9] * 3):
            self.refuses(BadPoly, {"index": -1}, store.write, poly)
        for thing in NO_INTEGERS + (-1, 8):
            self.refuses(BadPoly, {"index": 1}, store.write, [1, thing])
        self.refuses(BadPoly, {"index": 1}, store.write, (1, 0))
        self.assertEqual(state(store), before)

    def test_stores_are_independent(self):
        one, other = Store(LOT), Store(LOT)
        one.write((1,))
        one.spoil([(0, 0, 0)])
        self.assertEqual((other.written, other.shown), ((), (0, 0, 0)))
        self.assertEqual(LOT, PolyLot(EIGHT, (1, 2, 4), 1))


class SpoilTest(Case):
    def test_deeds(self):
        for chance, store in stores(3, 2):
            field, columns = store.polylot.field, store.polylot.columns
            table = [list(row) for row in table_of(field, store.shown)]
            wanted = [list(row) for row in table]
            deeds = []
            for _ in range(chance.randrange(9)):
                row, column = chance.randrange(field.degree), chance.randrange(columns)
                digit = chance.randrange(field.prime)
                deeds.append(chance.choice((tuple, list))((row, column, digit)))
                wanted[row][column] = digit
            kept = copy.deepcopy(deeds)
            self.assertIsNone(store.spoil(deeds))
            self.assertEqual(deeds, kept)
            shown = [list(row) for row in table_of(field, store.shown)]
            self.assertEqual(shown, wanted)
            cells = tuple((row, column) for row in range(field.degree) for column in range(columns)
                          if wanted[row][column] != table[row][column])
            self.assertEqual(store.spoilt_cells(), cells)
            self.assertEqual(store.spoilt_lanes(), slow_lanes(cells))

    def test_last_deed_stands(self):
        store = Store(PolyLot(NINE, (1, 3), 1))
        store.spoil([(0, 1, 1), (1, 1, 2), (0, 1, 2)])
        self.assertEqual((store.shown, store.spoilt_cells()), ((0, 8), ((0, 1), (1, 1))))
        store.spoil(((0, 1, 1), (0, 1, 0)))
        self.assertEqual((store.shown, store.spoilt_cells()), ((0, 6), ((1, 1),)))

    def test_digit_that_stands_there(self):
        store = Store(LOT)
        store.write((1,))
        store.spoil([(0, 0, 1), (1, 0, 0), (2, 2, 1)])
        self.assertEqual((store.shown, store.spoilt_cells()), ((1, 2, 4), ()))

    def test_many_deeds(self):
        store = Store(LOT)
        store.spoil(())
        store.spoil([(0, 0, 1)] * 63 + [(1, 1, 1)])
        self.assertEqual(store.shown, (1, 2, 0))

    def test_refused(self):
        store = Store(LOT)
        store.write((3,))
        store.spoil([(2, 1, 1)])
        before = state(store)
        for deeds in NO_SEQUENCES + (((0, 0, 1),) * 65, [None] * 65):
            self.refuses(BadCells, {"index": -1}, store.spoil, deeds)
        for deed in NO_SEQUENCES + ((), (0, 0), (0, 0, 0, 0)):
            self.refuses(BadCells, {"index": 0}, store.spoil, [deed, None])
            self.refuses(BadCells, {"index": 2}, store.spoil, ((0, 0, 0), [1, 1, 0], deed))
        for number in NO_INTEGERS + (-1, 3, 10 ** 59, -10 ** 59):
            for place in range(3):
                deed = [0, 0, 0]
                deed[place] = number
                self.refuses(BadCells, {"index": 1}, store.spoil, [(0, 0, 0), deed, 5])
        self.refuses(BadCells, {"index": 1}, store.spoil, [(0, 0, 0), (0, 0, 2)])
        self.assertEqual(state(store), before)

    def test_columns_and_digits_of_other_lots(self):
        store = Store(PolyLot(SIXTEEN, (1, 2), 1))
        store.spoil([(3, 1, 1)])
        self.refuses(BadCells, {"index": 0}, store.spoil, [(3, 2, 1)])
        self.refuses(BadCells, {"index": 0}, store.spoil, [(4, 1, 1)])
        Store(PolyLot(TWENTY_SEVEN, (1, 3), 1)).spoil([(2, 1, 2)])


class LanesTest(Case):
    def test_told_lanes(self):
        for chance, store in stores(4, 3):
            store.spoil(random_deeds(chance, store.polylot, random_cells(chance, store.polylot)))
            cells = store.spoilt_cells()
            for _ in range(3):
                rows, places = random_lanes(chance, store.polylot)
                wanted = slow_lanes(left_cells(cells, rows, places))
                self.assertEqual(store.spoilt_lanes(rows, places), wanted)
                self.assertEqual(store.spoilt_lanes(tuple(rows), places=tuple(places)), wanted)
            self.assertEqual(store.spoilt_lanes(places=[0]), slow_lanes(left_cells(cells, (), (0,))))
            self.assertEqual(store.spoilt_lanes([0]), slow_lanes(left_cells(cells, (0,), ())))

    def test_refused(self):
        store = Store(LOT)
        store.write((1,))
        store.spoil([(0, 0, 0), (1, 0, 1), (2, 1, 1)])
        before = state(store)
        for function in (store.spoilt_lanes, store.read_known, store.mend):
            for wrong in NO_SEQUENCES + ([0] * 17, (None,) * 17):
                self.refuses(BadLane, {"what": "rows"}, function, wrong, None)
                self.refuses(BadLane, {"what": "places"}, function, [0, 0], wrong)
            for number in NO_INTEGERS + (-1, 3, 10 ** 59):
                self.refuses(BadLane, {"what": "rows"}, function, [0, number], [9])
                self.refuses(BadLane, {"what": "places"}, function, (), (2, number))
        self.assertEqual(state(store), before)


class ReadTest(Case):
    def test_reads(self):
        for chance, store in stores(5, 2):
            store.spoil(random_deeds(chance, store.polylot, random_cells(chance, store.polylot)))
            before, lot = state(store), store.polylot
            self.assertEqual(store.read_plain(), read_word(lot, store.shown))
            rows, places = random_lanes(chance, lot)
            losses = lane_losses(lot.field, lot.columns, rows, places)
            self.assertEqual(store.read_known(rows, places), read_lost(lot, store.shown, losses))
            self.assertEqual(store.read_known(tuple(rows), tuple(places)),
                             store.read_known(rows, places))
            self.assertEqual(state(store), before)

    def test_read_while_few_lanes_are_spoilt(self):
        read = [0, 0]
        for chance, store in stores(6, 12):
            lot, written = store.polylot, store.written
            store.spoil(random_deeds(chance, lot, random_cells(chance, lot)[:3]))
            if 2 * store.spoilt_lanes() < lot.distance:
                self.assertEqual(store.read_plain().poly, written)
                read[0] += store.spoilt_lanes() > 0
            rows, places = random_lanes(chance, lot)
            told = len(set(rows)) + len(set(places))
            if 2 * store.spoilt_lanes(rows, places) + told < lot.distance:
                self.assertEqual(store.read_known(rows, places).poly, written)
                read[1] += told > 0
        self.assertTrue(min(read) > 10, read)

    def test_lanes_told_twice(self):
        """Each told lane counts once: three lanes are lost, which is below the distance 4."""
        store = Store(PolyLot(SIXTEEN, (1, 2, 4, 8), 1))
        store.write((7,))
        before = table_of(SIXTEEN, store.shown)
        store.spoil([(row, 0, 1 - before[row][0]) for row in range(4)]
                    + [(2, column, 1 - before[2][column]) for column in range(4)])
        self.assertEqual(store.spoilt_lanes([2, 2], [0, 0, 0]), 0)
        self.assertEqual(store.read_known([2, 2, 2], [0, 0, 1]).poly, (7,))
        self.assertEqual(store.read_known([2, 2, 2], [0, 0]), store.read_known([2], [0]))
        self.assertEqual(store.mend([2] * 16, [0] * 16), 7)

    def test_just_below_and_at_the_distance(self):
        """Distance 4: one told lane and a further one are read; at the distance nothing is."""
        store = Store(PolyLot(SIXTEEN, (1, 2, 4, 8), 1))
        store.write((7,))
        before = table_of(SIXTEEN, store.shown)
        store.spoil([(row, 0, 1 - before[row][0]) for row in range(4)]
                    + [(3, column, 1 - before[3][column]) for column in range(4)])
        self.assertEqual(store.spoilt_lanes(), 2)
        self.assertEqual(store.spoilt_lanes([3], ()), 1)
        self.assertEqual(store.read_known([3], ()).poly, (7,))
        self.assertEqual(store.read_known((), [0]).poly, (7,))
        self.assertEqual(store.read_known([3], [0]).poly, (7,))
        self.assertEqual(store.read_known([3, 0], [0]).poly, (7,))
        self.assertEqual(store.read_known([3, 0], [0, 1]), Far(-1))

    def test_worst_contents(self):
        """Where twice the lanes reach the distance, some contents of the cells are not read so."""
        found = 0
        for chance, store in stores(7, 4):
            lot, written = store.polylot, store.written
            cells = random_cells(chance, lot)
            lanes = slow_lanes(cells)
            change = worst_change(lot.field, lot.columns, cells)
            word = tuple(map(lot.field.plus, store.shown, change))
            table = table_of(lot.field, word)
            store.spoil([(row, column, table[row][column]) for row, column in cells])
            self.assertEqual(store.shown, word)
            self.assertEqual(store.spoilt_lanes(), lanes)
            read = store.read_plain()
            if 2 * lanes < lot.distance:
                self.assertEqual(read.poly, written)
            else:
                self.assertTrue(isinstance(read, Far) or read.poly != written)
                found += 1
        self.assertGreater(found, 10)

    def test_nothing_spoilt(self):
        for _, store in stores(8):
            wanted = Read(store.written, store.shown, (0,) * store.polylot.columns, 0)
            self.assertEqual(store.read_plain(), wanted)
            self.assertEqual(store.read_known((), ()), wanted)


class MendTest(Case):
    def test_mend(self):
        done = [0, 0]
        for chance, store in stores(9, 6):
            lot = store.polylot
            store.spoil(random_deeds(chance, lot, random_cells(chance, lot)[:4]))
            rows, places = random_lanes(chance, lot)
            before, read = state(store), store.read_known(rows, places)
            many = store.spoilt_lanes(rows, places)
            if isinstance(read, Far):
                self.refuses(TooSpoilt, {"lanes": many}, store.mend, rows, places)
                self.assertEqual(state(store), before)
                done[0] += 1
                continue
            tables = [table_of(lot.field, word) for word in (before[2], read.word)]
            unlike = sum(a != b for one, other in zip(*tables) for a, b in zip(one, other))
            self.assertEqual(store.mend(rows, places), unlike)
            self.assertEqual(state(store), (lot, read.poly, read.word))
            self.assertEqual((store.spoilt_cells(), store.spoilt_lanes()), ((), 0))
            done[1] += unlike > 0
        self.assertTrue(min(done) > 10, done)

    def test_without_told_lanes(self):
        store = Store(LOT)
        store.write((5,))
        store.spoil([(0, 1, 0), (0, 1, 1), (1, 1, 1)])
        cells = store.spoilt_cells()
        self.assertEqual(store.mend(), len(cells))
        self.assertEqual(store.written, (5,))
        self.assertEqual(store.mend(), 0)

    def test_told_lanes(self):
        for rows, places in (((), [0]), ([1], ()), ([2], [1])):
            store = Store(LOT)
            store.write((5,))
            before = table_of(EIGHT, store.shown)
            store.spoil([(row, column, 1 - before[row][column]) for row in range(3)
                         for column in range(3) if row in rows or column in places])
            cells = store.spoilt_cells()
            self.assertEqual(len(cells), 3 * len(rows) + 3 * len(places) - len(rows) * len(places))
            self.assertEqual(store.mend(rows=rows, places=places), len(cells))
            self.assertEqual((store.written, store.shown), ((5,), LOT.word_for((5,))))

    def test_another_poly(self):
        """If more was spoilt than can be undone, another poly may be read."""
        store = Store(LOT)
        store.write((1,))
        other = table_of(EIGHT, LOT.word_for((2,)))
        store.spoil([(row, column, other[row][column]) for row in range(3) for column in range(3)])
        many = len(store.spoilt_cells())
        self.assertEqual(store.mend(), 0)
        self.assertGreater(many, 0)
        self.assertEqual((store.written, store.shown, store.spoilt_cells()),
                         ((2,), LOT.word_for((2,)), ()))

    def test_too_spoilt(self):
        store = Store(PolyLot(FOUR, (1, 2), 1))
        store.write((1,))
        store.spoil([(0, 0, 0)])
        before = state(store)
        self.refuses(TooSpoilt, {"lanes": 1}, store.mend)
        self.refuses(TooSpoilt, {"lanes": 0}, store.mend, [0], [0])
        self.assertEqual(state(store), before)
        self.assertEqual(store.mend((), [0]), 1)
        self.assertEqual(state(store), (store.polylot, (1,), (1, 2)))

    def test_example(self):
        store = Store(LOT)
        store.write((1,))
        self.assertEqual(store.shown, (1, 2, 4))
        store.spoil([(2, 0, 1)])
        self.assertEqual((store.shown, store.spoilt_lanes()), ((5, 2, 4), 1))
        self.assertEqual((store.mend(), store.shown), (1, (1, 2, 4)))


if __name__ == "__main__":
    unittest.main()
