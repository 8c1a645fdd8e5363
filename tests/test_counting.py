"""Point [1.1]."""

import itertools
import unittest

from rankwords.counting import power_of, space_count, table_count
from tests.support import Case, spanned_rows


def slow_space_count(prime, whole, part):
    """[whole, part] by the rule of Pascal, which divides nothing."""
    if part < 0 or part > whole:
        return 0
    row = [1]
    for width in range(1, whole + 1):
        last = row + [0]
        row = [1] + [last[at - 1] + prime ** at * last[at] for at in range(1, width + 1)]
    return row[part]


class PowerTest(Case):
    def test_powers(self):
        for base in (-3, -1, 0, 1, 2, 3, 10 ** 29 + 1, -10 ** 29):
            for exponent in range(41):
                self.assertEqual(power_of(base, exponent), base ** exponent)

    def test_exponent_0(self):
        self.assertEqual([power_of(0, 0), power_of(5, 0)], [1, 1])


class SpaceCountTest(Case):
    def test_known(self):
        self.assertEqual([space_count(2, 4, part) for part in range(5)], [1, 15, 35, 15, 1])
        self.assertEqual([space_count(3, 3, part) for part in range(4)], [1, 13, 13, 1])

    def test_all_numbers(self):
        for prime in (2, 3):
            for whole in range(41):
                for part in range(-2, 42):
                    self.assertEqual(space_count(prime, whole, part),
                                     slow_space_count(prime, whole, part))

    def test_counts_that_are_0(self):
        for prime in (2, 3):
            for whole, part in ((0, -1), (0, 1), (4, -1), (4, -40), (4, 5), (40, 41), (3, 40)):
                self.assertEqual(space_count(prime, whole, part), 0)

    def test_no_dimensions(self):
        self.assertEqual([space_count(2, 0, 0), space_count(3, 0, 0)], [1, 1])

    def test_exact_integers(self):
        self.assertIs(type(space_count(3, 40, 20)), int)


class TableCountTest(Case):
    def test_gone_through(self):
        for prime, tall, wide in ((2, 2, 3), (2, 3, 2), (3, 2, 2), (2, 1, 4), (2, 4, 1), (3, 1, 2)):
            found = {}
            rows = list(itertools.product(range(prime), repeat=wide))
            for table in itertools.product(rows, repeat=tall):
                many = len(spanned_rows(prime, wide, table))
                found[many] = found.get(many, 0) + 1
            for rank in range(-1, 6):
                many = found.get(prime ** rank, 0) if rank >= 0 else 0
                self.assertEqual(table_count(prime, tall, wide, rank), many)

    def test_all_ranks_make_all_tables(self):
        for prime in (2, 3):
            for tall, wide in ((0, 0), (0, 5), (5, 0), (7, 9), (9, 7), (40, 3), (40, 40)):
                counts = [table_count(prime, tall, wide, rank) for rank in range(41)]
                self.assertEqual(sum(counts), prime ** (tall * wide))

    def test_counts_that_are_0(self):
        for tall, wide, rank in ((2, 3, -1), (2, 3, -40), (2, 3, 3), (3, 2, 3), (0, 3, 1), (3, 0, 1)):
            self.assertEqual(table_count(2, tall, wide, rank), 0)
            self.assertEqual(table_count(3, tall, wide, rank), 0)

    def test_rank_0(self):
        self.assertEqual([table_count(2, 0, 0, 0), table_count(3, 4, 0, 0), table_count(2, 3, 3, 0)],
                         [1, 1, 1])


if __name__ == "__main__":
    unittest.main()
