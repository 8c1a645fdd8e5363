"""Points [1.6] to [1.8]."""

import inspect
import itertools
import unittest

from rankwords.counting import space_count
from rankwords.errors import BadRow, BadThing
from rankwords.spaces import (all_spaces, contrary, echelon, holds_row, holds_thing, meet_spaces,
                              row_rank, rows_of_space, space_things, sum_spaces, things_space,
                              unit_row)
from tests.support import (Case, FIELDS, FOUR, NO_INTEGERS, NO_SEQUENCES, TWENTY_SEVEN, rng,
                           spanned_rows, spanned_things)


def random_rows(chance, prime, width, many):
    return tuple(tuple(chance.randrange(prime) for _ in range(width)) for _ in range(many))


def every_row(prime, width):
    return list(itertools.product(range(prime), repeat=width))


def samples():
    """Triples of a prime, a width and rows: none, few, dependent ones, many."""
    chance = rng(16)
    for prime in (2, 3):
        for width in range(5):
            for many in (0, 1, 2, 3, 4, 9):
                for _ in range(4):
                    yield prime, width, random_rows(chance, prime, width, many)


class EchelonTest(Case):
    def is_echelon(self, basis):
        leads = []
        for row in basis:
            place = next(at for at, digit in enumerate(row) if digit)
            self.assertEqual(row[place], 1)
            leads.append(place)
        self.assertEqual(leads, sorted(set(leads)))
        for row, lead in itertools.product(basis, leads):
            self.assertEqual(row[lead], int(leads[basis.index(row)] == lead))

    def test_form_and_space(self):
        for prime, width, rows in samples():
            basis = echelon(prime, width, rows)
            self.is_echelon(basis)
            self.assertEqual(spanned_rows(prime, width, basis), spanned_rows(prime, width, rows))
            self.assertEqual(row_rank(prime, width, rows), len(basis))
            self.assertEqual(echelon(prime, width, basis), basis)

    def test_any_rows_of_one_space_have_one_basis(self):
        for basis in all_spaces(3, 3, 2):
            space = sorted(spanned_rows(3, 3, basis))
            self.assertEqual(echelon(3, 3, space), basis)
            self.assertEqual(echelon(3, 3, space[::-1]), basis)

    def test_no_rows_and_zeros(self):
        for width in (0, 1, 16):
            zeros = (0,) * width
            self.assertEqual(echelon(2, width, ()), ())
            self.assertEqual(echelon(3, width, [zeros, zeros]), ())
            self.assertEqual(row_rank(3, width, [zeros]), 0)

    def test_known(self):
        self.assertEqual(echelon(3, 3, [(0, 2, 1), (2, 1, 0)]), ((1, 0, 2), (0, 1, 2)))
        self.assertEqual(echelon(2, 3, [(1, 1, 0), (1, 0, 1)]), ((1, 0, 1), (0, 1, 1)))

    def test_wide_and_many(self):
        for prime in (2, 3):
            rows = random_rows(rng(5), prime, 16, 2000)
            basis = echelon(prime, 16, rows)
            self.is_echelon(basis)
            self.assertEqual(basis, tuple(unit_row(16, place) for place in range(16)))
            self.is_echelon(echelon(prime, 16, rows[:9]))

    def test_lists(self):
        self.takes_lists(echelon, 2, 3, ((1, 1, 0), (0, 1, 1)))
        self.assertEqual(echelon(2, 2, ([1, 0], (0, 1))), ((1, 0), (0, 1)))


class ContraryTest(Case):
    def test_gone_through(self):
        for prime, width, rows in samples():
            wanted = {row for row in every_row(prime, width)
                      if all(sum(a * b for a, b in zip(row, other)) % prime == 0 for other in rows)}
            basis = contrary(prime, width, rows)
            self.assertEqual(spanned_rows(prime, width, basis), wanted)
            self.assertEqual(basis, echelon(prime, width, basis))

    def test_dimensions_and_back(self):
        chance = rng(6)
        for prime, width in itertools.product((2, 3), (0, 1, 5, 9, 16)):
            for many in (0, 1, 4, 16):
                rows = random_rows(chance, prime, width, many)
                basis = contrary(prime, width, rows)
                self.assertEqual(len(basis) + row_rank(prime, width, rows), width)
                self.assertEqual(contrary(prime, width, basis), echelon(prime, width, rows))

    def test_no_rows(self):
        self.assertEqual(contrary(2, 3, ()), ((1, 0, 0), (0, 1, 0), (0, 0, 1)))
        self.assertEqual(contrary(3, 0, ()), ())
        self.assertEqual(contrary(2, 2, [(1, 0), (1, 1)]), ())

    def test_lists(self):
        self.takes_lists(contrary, 3, 3, ((1, 1, 0), (0, 1, 1)))


class TwoSpacesTest(Case):
    def test_sums_and_meets(self):
        chance = rng(7)
        for prime, width in itertools.product((2, 3), range(5)):
            for _ in range(12):
                one = random_rows(chance, prime, width, chance.randrange(5))
                other = random_rows(chance, prime, width, chance.randrange(5))
                added = sum_spaces(prime, width, one, other)
                common = meet_spaces(prime, width, one, other)
                first, second = spanned_rows(prime, width, one), spanned_rows(prime, width, other)
                self.assertEqual(spanned_rows(prime, width, common), first & second)
                self.assertEqual(spanned_rows(prime, width, added),
                                 spanned_rows(prime, width, one + other))
                for basis in (added, common):
                    self.assertEqual(basis, echelon(prime, width, basis))
                self.assertEqual(len(added) + len(common),
                                 row_rank(prime, width, one) + row_rank(prime, width, other))

    def test_without_rows(self):
        rows = ((1, 2), (2, 1))
        self.assertEqual(sum_spaces(3, 2, (), rows), ((1, 2),))
        self.assertEqual(sum_spaces(3, 2, [], []), ())
        self.assertEqual(meet_spaces(3, 2, rows, ()), ())
        self.assertEqual(meet_spaces(3, 2, (), ()), ())

    def test_lists(self):
        for function in (sum_spaces, meet_spaces):
            self.takes_lists(function, 2, 2, ((1, 1),), ((1, 0), (0, 1)))


class RowsTest(Case):
    def test_holds_row(self):
        for prime, width, rows in samples():
            space = spanned_rows(prime, width, rows)
            for row in every_row(prime, width):
                self.assertIs(holds_row(prime, width, rows, row), row in space)

    def test_rows_of_space(self):
        for prime, width, rows in samples():
            self.assertEqual(rows_of_space(prime, width, rows),
                             tuple(sorted(spanned_rows(prime, width, rows))))

    def test_rows_of_space_at_the_limit(self):
        rows = random_rows(rng(8), 3, 16, 6)
        self.assertEqual(row_rank(3, 16, rows), 6)
        self.assertEqual(rows_of_space(3, 16, rows), tuple(sorted(spanned_rows(3, 16, rows))))
        self.assertEqual(len(rows_of_space(3, 16, rows)), 729)

    def test_spaces_without_rows(self):
        self.assertEqual(rows_of_space(2, 3, ()), ((0, 0, 0),))
        self.assertEqual(rows_of_space(2, 0, ()), ((),))
        self.assertIs(holds_row(2, 3, (), (0, 0, 0)), True)
        self.assertIs(holds_row(2, 3, (), [0, 1, 0]), False)

    def test_unit_row(self):
        self.assertEqual(unit_row(3, 0), (1, 0, 0))
        self.assertEqual(unit_row(3, 2), (0, 0, 1))
        self.assertEqual(unit_row(1, 0), (1,))
        self.assertTrue(all(type(digit) is int for digit in unit_row(16, 15)))

    def test_lists(self):
        self.takes_lists(rows_of_space, 2, 2, ((1, 1),))
        self.takes_lists(holds_row, 2, 2, ((1, 1),), (1, 1))


class AllSpacesTest(Case):
    def test_generator(self):
        self.assertTrue(inspect.isgeneratorfunction(all_spaces))

    def test_ascending_bases_of_unlike_spaces(self):
        for prime, width in itertools.product((2, 3), range(5)):
            for dimension in range(width + 1):
                found = list(all_spaces(prime, width, dimension))
                self.assertEqual(found, sorted(set(found)))
                self.assertEqual(len(found), space_count(prime, width, dimension))
                for basis in found:
                    self.assertEqual(len(basis), dimension)
                    self.assertEqual(basis, echelon(prime, width, basis))

    def test_known(self):
        self.assertEqual(list(all_spaces(2, 2, 1)), [((0, 1),), ((1, 0),), ((1, 1),)])
        self.assertEqual(list(all_spaces(3, 0, 0)), [()])
        self.assertEqual(list(all_spaces(2, 4, 0)), [()])
        self.assertEqual(list(all_spaces(2, 2, 2)), [((1, 0), (0, 1))])

    def test_dimensions_that_no_space_has(self):
        for dimension in (-2, -1, 3, 4):
            self.assertEqual(list(all_spaces(2, 2, dimension)), [])


class RefusedRowsTest(Case):
    ONE = (echelon, row_rank, contrary, rows_of_space)
    TWO = (sum_spaces, meet_spaces)

    def calls(self, rows):
        """Calls in which these rows are what is refused first."""
        for function in self.ONE:
            yield function, (2, 2, rows)
        for function in self.TWO:
            yield function, (2, 2, rows, None)
            yield function, (2, 2, ((1, 1),), rows)
        yield holds_row, (2, 2, rows, None)

    def refused(self, index, rows):
        for function, args in self.calls(rows):
            self.refuses(BadRow, {"index": index}, function, *args)

    def test_no_sequence(self):
        for rows in NO_SEQUENCES:
            self.refused(-1, rows)

    def test_wrong_rows(self):
        good = (1, 0)
        for row in NO_SEQUENCES + ((), (1,), (1, 0, 0), (2, 0), (0, -1), (0, 10 ** 30)):
            self.refused(0, (row, good))
            self.refused(2, [good, good, row, None])
        for digit in NO_INTEGERS:
            self.refused(1, (good, (1, digit)))

    def test_digits_of_the_prime(self):
        self.refuses(BadRow, {"index": 1}, echelon, 2, 1, ((1,), (2,)))
        self.assertEqual(echelon(3, 1, ((1,), (2,))), ((1,),))
        self.refuses(BadRow, {"index": 0}, echelon, 3, 1, ((3,),))

    def test_width_0(self):
        self.refuses(BadRow, {"index": 1}, echelon, 2, 0, ((), (0,)))
        self.assertEqual(echelon(2, 0, ((), ())), ())

    def test_row_of_holds_row(self):
        for row in NO_SEQUENCES + ((), (1,), (1, 0, 0), (2, 0), (True, 0)):
            self.refuses(BadRow, {"index": 0}, holds_row, 2, 2, ((1, 0), (0, 1)), row)
        self.refuses(BadRow, {"index": 1}, holds_row, 2, 2, ((1, 0), (0, 3)), (3, 3))


class SpacesOfThingsTest(Case):
    def samples(self):
        chance = rng(18)
        for field in FIELDS:
            for many in (0, 1, 2, 3, 5, 16):
                for _ in range(5):
                    yield field, tuple(chance.randrange(field.size) for _ in range(many))

    def test_basis(self):
        for field, things in self.samples():
            basis = things_space(field, things)
            self.assertIs(type(basis), tuple)
            rows = [field.digits_of(thing) for thing in things]
            self.assertEqual(tuple(field.digits_of(thing) for thing in basis),
                             echelon(field.prime, field.degree, rows))
            self.assertEqual(spanned_things(field, basis), spanned_things(field, things))

    def test_all_things(self):
        for field, things in self.samples():
            space = spanned_things(field, things)
            self.assertEqual(space_things(field, things), tuple(sorted(space)))
            for thing in range(field.size):
                self.assertIs(holds_thing(field, things, thing), thing in space)

    def test_known(self):
        self.assertEqual(things_space(FOUR, (3, 2)), (1, 2))
        self.assertEqual(things_space(FOUR, (3,)), (3,))
        self.assertEqual(things_space(TWENTY_SEVEN, (2, 18)), (1, 9))
        self.assertEqual(space_things(FOUR, [2]), (0, 2))

    def test_without_things_and_zeros(self):
        for field in FIELDS:
            for things in ((), (0,), [0] * 16):
                self.assertEqual(things_space(field, things), ())
                self.assertEqual(space_things(field, things), (0,))
                self.assertIs(holds_thing(field, things, 0), True)
                self.assertIs(holds_thing(field, things, 1), False)

    def test_lists(self):
        for function in (things_space, space_things):
            self.takes_lists(function, FOUR, (3, 2))
        self.takes_lists(holds_thing, FOUR, (3, 0), 2)

    def refused(self, index, things):
        for function in (things_space, space_things):
            self.refuses(BadThing, {"index": index}, function, FOUR, things)
        self.refuses(BadThing, {"index": index}, holds_thing, FOUR, things, None)

    def test_refused_things(self):
        for things in NO_SEQUENCES + ((1,) * 17, [9] * 17):
            self.refused(-1, things)
        for thing in NO_INTEGERS + (-1, 4):
            self.refused(0, (thing, None))
            self.refused(15, (3,) * 15 + (thing,))

    def test_refused_thing(self):
        for thing in NO_INTEGERS + (-1, 4):
            self.refuses(BadThing, {"index": 0}, holds_thing, FOUR, (1, 2), thing)


if __name__ == "__main__":
    unittest.main()
