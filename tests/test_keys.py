"""Points [5.2] to [5.4]: rows of things and the linear task of reading."""

import unittest

from rankwords.divisions import divided_within
from rankwords.errors import BadErrors, BadRow, BadWord
from rankwords.keys import key_basis, key_couple, key_rows, reduced_things, solutions_basis
from rankwords.polylots import PolyLot
from tests.support import (Case, EIGHT, FIELDS, FOUR, NINE, NO_INTEGERS, NO_SEQUENCES, SIXTEEN,
                           TWENTY_SEVEN, all_words, poly_lots, random_word, rng, slow_distance,
                           slow_less, slow_rank, slow_value)

LOT = PolyLot(EIGHT, (1, 2, 4), 1)


def product(field, one, other):
    total = 0
    for a, b in zip(one, other):
        total = field.plus(total, field.times(a, b))
    return total


def all_sums(field, width, rows):
    """The set of all sums of multiples, by things, of the rows."""
    found = {(0,) * width}
    for row in rows:
        multiples = [[field.times(thing, item) for item in row] for thing in range(field.size)]
        found = {tuple(map(field.plus, old, part)) for old in found for part in multiples}
    return found


def samples(seed, many=6):
    """Rows of things of small width, some of them sums of others."""
    chance = rng(seed)
    for field in FIELDS:
        for width in (1, 2, 3):
            for _ in range(many):
                rows = [random_word(chance, field, width) for _ in range(chance.randrange(4))]
                if rows and chance.random() < 0.5:
                    scaled = [field.times(chance.randrange(field.size), item) for item in rows[0]]
                    rows.append(tuple(map(field.plus, scaled, rows[-1])))
                yield field, width, tuple(rows)


class RowsTest(Case):
    def check_reduced(self, width, basis):
        places = []
        for row in basis:
            self.assertEqual(len(row), width)
            place = next(at for at, thing in enumerate(row) if thing)
            self.assertEqual(row[place], 1)
            self.assertEqual(sum(other[place] != 0 for other in basis), 1)
            places.append(place)
        self.assertEqual(places, sorted(set(places)))

    def test_reduced(self):
        for field, width, rows in samples(1):
            basis = reduced_things(field, width, rows)
            self.check_reduced(width, basis)
            if field.size ** width <= 4096:
                self.assertEqual(all_sums(field, width, basis), all_sums(field, width, rows))
                self.takes_lists(reduced_things, field, width, rows)

    def test_solutions(self):
        for field, width, rows in samples(2):
            basis = solutions_basis(field, width, rows)
            self.check_reduced(width, basis)
            if field.size ** width <= 800:
                wanted = {x for x in all_words(field, width)
                          if not any(product(field, row, x) for row in rows)}
                self.assertEqual(all_sums(field, width, basis), wanted)
                self.takes_lists(solutions_basis, field, width, rows)

    def test_16_rows_and_places(self):
        chance = rng(3)
        for field in (SIXTEEN, TWENTY_SEVEN, FOUR):
            for many in (0, 1, 5, 15, 16):
                rows = [random_word(chance, field, 16) for _ in range(many)]
                basis, found = reduced_things(field, 16, rows), solutions_basis(field, 16, rows)
                self.check_reduced(16, basis)
                self.check_reduced(16, found)
                self.assertEqual(len(basis) + len(found), 16)
                self.assertFalse(any(product(field, row, x) for row in rows for x in found))
                self.assertFalse(any(product(field, row, x) for row in basis for x in found))

    def test_sizes_add_up(self):
        for field, width, rows in samples(4):
            basis, found = reduced_things(field, width, rows), solutions_basis(field, width, rows)
            self.assertEqual(len(basis) + len(found), width)
            # The solutions of the solutions are the sums of the rows again.
            self.assertEqual(solutions_basis(field, width, found), basis)

    def test_edges(self):
        for field in FIELDS:
            self.assertEqual(reduced_things(field, 2, ()), ())
            self.assertEqual(reduced_things(field, 2, [(0, 0), (0, 0)]), ())
            self.assertEqual(solutions_basis(field, 2, []), ((1, 0), (0, 1)))
            self.assertEqual(solutions_basis(field, 2, [(0, 0)]), ((1, 0), (0, 1)))
            self.assertEqual(solutions_basis(field, 1, [(1,)]), ())
            self.assertEqual(solutions_basis(field, 2, [(1, 1)]), ((1, field.negative(1)),))
        self.assertEqual(reduced_things(FOUR, 2, [(2, 1), (1, 3)]), ((1, 3),))
        self.assertEqual(reduced_things(NINE, 3, [(0, 2, 0)]), ((0, 1, 0),))

    def test_refused(self):
        for function in (reduced_things, solutions_basis):
            for rows in NO_SEQUENCES:
                self.refuses(BadRow, {"index": -1}, function, EIGHT, 2, rows)
            for row in NO_SEQUENCES + ((), (1,), (1, 2, 3)):
                self.refuses(BadRow, {"index": 0}, function, EIGHT, 2, [row, None])
                self.refuses(BadRow, {"index": 1}, function, EIGHT, 2, ([7, 7], row))
            for thing in NO_INTEGERS + (-1, 8):
                self.refuses(BadRow, {"index": 2}, function, EIGHT, 2, [(1, 2)] * 2 + [(7, thing)])


class KeyRowsTest(Case):
    def test_rows(self):
        chance = rng(5)
        for polylot in poly_lots(5):
            field, n, k = polylot.field, polylot.columns, polylot.terms
            for errors in range(polylot.distance):
                word = random_word(chance, field, n)
                rows = key_rows(polylot, word, errors)
                self.assertEqual(len(rows), n)
                for row, thing, point in zip(rows, word, polylot.points):
                    left = [field.stepped(thing, i) for i in range(errors + 1)]
                    right = [field.minus(0, field.stepped(point, i)) for i in range(k + errors)]
                    self.assertEqual(row, tuple(left + right))
                    self.assertEqual(len(row), 2 * errors + k + 1)
                self.assertEqual(key_basis(polylot, word, errors),
                                 solutions_basis(field, 2 * errors + k + 1, rows))
                self.takes_lists(lambda y: key_rows(polylot, y, errors), word)

    def test_couples(self):
        """V(y_i) = N(g_i) for all i, for each solution; the couple is the first one."""
        chance = rng(6)
        for polylot in poly_lots(6, 2):
            field, k = polylot.field, polylot.terms
            for errors in range(polylot.distance):
                word = random_word(chance, field, polylot.columns)
                basis = key_basis(polylot, word, errors)
                for row in basis:
                    for thing, point in zip(word, polylot.points):
                        self.assertEqual(slow_value(field, row[:errors + 1], thing),
                                         slow_value(field, row[errors + 1:], point))
                couple = key_couple(polylot, word, errors)
                if not basis:
                    self.assertIsNone(couple)
                    continue
                left, right = couple
                self.assertTrue(left and left[-1])
                self.assertTrue(not right or right[-1])
                told = left + (0,) * (errors + 1 - len(left)) + right
                self.assertEqual(told + (0,) * (2 * errors + k + 1 - len(told)), basis[0])
                self.takes_lists(lambda y: key_couple(polylot, y, errors), word)

    def test_no_couple(self):
        polylot = PolyLot(EIGHT, (1, 2, 4), 1)
        found = [key_couple(polylot, word, 0) for word in all_words(EIGHT, 3)]
        # Just the members have a couple for no errors.
        self.assertEqual(sum(couple is not None for couple in found), 8)

    def test_refused(self):
        for function in (key_rows, key_basis, key_couple):
            for word in NO_SEQUENCES + ((), (1, 2), (1, 2, 3, 4)):
                self.refuses(BadWord, {"index": -1}, function, LOT, word, None)
            for thing in NO_INTEGERS + (-1, 8):
                self.refuses(BadWord, {"index": 0}, function, LOT, (thing, None, 0), 9)
                self.refuses(BadWord, {"index": 2}, function, LOT, [0, 0, thing], -1)
            for errors in NO_INTEGERS + (-1, 3, 10 ** 59, -10 ** 59):
                self.refuses(BadErrors, {}, function, LOT, (0, 2, 4), errors)
            whole = PolyLot(EIGHT, (1, 2, 4), 3)
            self.refuses(BadErrors, {}, function, whole, (0, 2, 4), 1)
            function(whole, (0, 2, 4), 0)
            function(LOT, (0, 2, 4), 2)

    def test_example(self):
        self.assertEqual(key_rows(LOT, (0, 2, 4), 1), ((0, 0, 1, 1), (2, 4, 2, 4), (4, 6, 4, 6)))
        self.assertEqual(key_basis(LOT, (0, 2, 4), 1), ((1, 1, 1, 1),))
        self.assertEqual(key_couple(LOT, (0, 2, 4), 1), ((1, 1), (1, 1)))


class QuotientTest(Case):
    """Point [5.4], by the members gone through."""

    def words(self, chance, polylot):
        field, columns = polylot.field, polylot.columns
        if field.size ** columns <= 64:
            yield from all_words(field, columns)
        for _ in range(25):
            yield random_word(chance, field, columns)

    def quotient(self, polylot, couple):
        """The poly that the couple tells, or None."""
        if couple is None:
            return None
        found, rest = divided_within(polylot.field, couple[1], couple[0])
        return None if rest or len(found) > polylot.terms else found

    def test_members_near_enough(self):
        chance = rng(7)
        for polylot in poly_lots(7):
            if polylot.size > 256:
                continue
            field, members = polylot.field, polylot.as_lot().members
            for word in self.words(chance, polylot):
                ranks = {member: slow_distance(field, word, member) for member in members}
                for errors in range((polylot.distance + 1) // 2):
                    near = [member for member in members if ranks[member] <= errors]
                    found = self.quotient(polylot, key_couple(polylot, word, errors))
                    self.assertEqual(found, polylot.poly_for(near[0]) if near else None)
                    if near:
                        self.check_basis(polylot, word, errors, near[0])

    def check_basis(self, polylot, word, errors, member):
        field, error = polylot.field, slow_less(polylot.field, word, member)
        basis = key_basis(polylot, word, errors)
        self.assertEqual(len(basis), errors + 1 - slow_rank(field, error))
        for row in basis:
            left, right = self.couple_of(row, errors)
            self.assertTrue(left)
            self.assertFalse(any(slow_value(field, left, thing) for thing in error))
            self.assertEqual(divided_within(field, right, left), (polylot.poly_for(member), ()))

    def couple_of(self, row, errors):
        polys = []
        for terms in (list(row[:errors + 1]), list(row[errors + 1:])):
            while terms and terms[-1] == 0:
                terms.pop()
            polys.append(tuple(terms))
        return polys


if __name__ == "__main__":
    unittest.main()
