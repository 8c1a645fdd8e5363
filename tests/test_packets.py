"""Points [8.1] and [8.2]: packets and the distance of their spaces."""

import unittest

from rankwords.errors import BadColumns, BadRows, BadWord
from rankwords.packets import check_rows, packets_of, rows_distance
from rankwords.spaces import all_spaces, echelon
from tests.support import (Case, EIGHT, FIELDS, FOUR, NINE, NO_INTEGERS, NO_SEQUENCES, SIXTEEN,
                           all_words, dimension_of, random_packets, random_word, rng,
                           slow_distance, spanned_rows)


def samples(seed, many=3):
    chance = rng(seed)
    for field in FIELDS:
        for columns in range(1, field.degree + 1):
            for _ in range(many):
                yield chance, field, columns


def slow_rows_distance(field, columns, one, other):
    """By the numbers of rows in both spaces and of their sums."""
    prime, width = field.prime, columns + field.degree
    many = [len(spanned_rows(prime, width, rows)) for rows in (one, other, one + other)]
    first, second, both = [dimension_of(prime, size) for size in many]
    return 2 * both - first - second


class CheckTest(Case):
    def test_rows(self):
        for chance, field, columns in samples(1):
            rows = random_packets(chance, field, columns, 16)
            self.assertEqual(check_rows(field, columns, rows), rows)
            self.takes_lists(check_rows, field, columns, rows)

    def test_many(self):
        self.assertEqual(check_rows(FOUR, 1, []), ())
        self.assertEqual(check_rows(FOUR, 1, ([1, 0, 1],) * 16), ((1, 0, 1),) * 16)
        self.refuses(BadRows, {"index": -1}, check_rows, FOUR, 1, ((1, 0, 1),) * 17)
        self.refuses(BadRows, {"index": -1}, check_rows, FOUR, 1, [None] * 17)

    def test_columns(self):
        for function in (check_rows, rows_distance):
            more = [None] if function == rows_distance else []
            for columns in NO_INTEGERS + (0, -1, 4, 10 ** 59):
                self.refuses(BadColumns, {}, function, EIGHT, columns, None, *more)
                self.refuses(BadColumns, {}, function, EIGHT, columns, (), *more)

    def test_rows_refused(self):
        for rows in NO_SEQUENCES:
            self.refuses(BadRows, {"index": -1}, check_rows, NINE, 2, rows)
        for row in NO_SEQUENCES + ((), (0, 0, 0), (0,) * 5):
            self.refuses(BadRows, {"index": 0}, check_rows, NINE, 2, [row, None])
            self.refuses(BadRows, {"index": 1}, check_rows, NINE, 2, ((0, 1, 2, 0), row))
        for digit in NO_INTEGERS + (-1, 3, 10 ** 59):
            for place in range(4):
                row = [0] * 4
                row[place] = digit
                self.refuses(BadRows, {"index": 2}, check_rows, NINE, 2, [[1] * 4, (2,) * 4, row])


class PacketsTest(Case):
    def test_packets(self):
        for chance, field, columns in samples(2):
            word = random_word(chance, field, columns)
            packets = packets_of(field, word)
            self.assertEqual(len(packets), columns)
            for place, packet in enumerate(packets):
                front = [0] * columns
                front[place] = 1
                self.assertEqual(packet[:columns], tuple(front))
                self.assertEqual(field.thing_of(packet[columns:]), word[place])
                self.assertEqual(len(packet), columns + field.degree)
            self.assertEqual(echelon(field.prime, columns + field.degree, packets), packets)
            self.takes_lists(packets_of, field, word)

    def test_example(self):
        self.assertEqual(packets_of(EIGHT, (1, 2, 4)),
                         ((1, 0, 0, 1, 0, 0), (0, 1, 0, 0, 1, 0), (0, 0, 1, 0, 0, 1)))

    def test_refused(self):
        for word in NO_SEQUENCES + ((), (0,) * 4):
            self.refuses(BadWord, {"index": -1}, packets_of, EIGHT, word)
        for thing in NO_INTEGERS + (-1, 8):
            self.refuses(BadWord, {"index": 1}, packets_of, EIGHT, [7, thing, 9])


class DistanceTest(Case):
    def test_samples(self):
        for chance, field, columns in samples(3, 4):
            one = random_packets(chance, field, columns, 5)
            other = random_packets(chance, field, columns, 5) + one[:2]
            distance = rows_distance(field, columns, one, other)
            self.assertEqual(distance, slow_rows_distance(field, columns, one, other))
            self.assertEqual(rows_distance(field, columns, other, one), distance)
            self.takes_lists(rows_distance, field, columns, one, other)

    def test_all_spaces(self):
        """Every couple of spaces of three places: 0 just for one space, and never a way round."""
        found = [basis for many in range(4) for basis in all_spaces(2, 3, many)]
        table = {(one, other): rows_distance(FOUR, 1, one, other)
                 for one in found for other in found}
        for one in found:
            for other in found:
                self.assertEqual(table[one, other], slow_rows_distance(FOUR, 1, one, other))
                self.assertEqual(table[one, other] == 0, one == other)
                for third in found:
                    self.assertLessEqual(table[one, other], table[one, third] + table[third, other])

    def test_no_rows(self):
        self.assertEqual(rows_distance(NINE, 2, (), []), 0)
        self.assertEqual(rows_distance(NINE, 2, (), [(0,) * 4] * 16), 0)
        self.assertEqual(rows_distance(NINE, 2, [(0, 1, 2, 0)] * 16, ()), 1)
        units = [[int(place == at) for at in range(8)] for place in range(8)]
        self.assertEqual(rows_distance(SIXTEEN, 4, units + units, ()), 8)
        self.assertEqual(rows_distance(SIXTEEN, 4, units[:4], units[4:]), 8)

    def test_sent_spaces(self):
        for chance, field, columns in samples(4):
            one, other = (random_word(chance, field, columns) for _ in range(2))
            self.assertEqual(rows_distance(field, columns, packets_of(field, one),
                                           packets_of(field, other)),
                             2 * slow_distance(field, one, other))

    def test_all_sent_spaces(self):
        words = list(all_words(FOUR, 2))
        for one in words:
            for other in words:
                self.assertEqual(rows_distance(FOUR, 2, packets_of(FOUR, one), packets_of(FOUR, other)),
                                 2 * slow_distance(FOUR, one, other))

    def test_refused(self):
        for rows in NO_SEQUENCES + ([(0, 0, 0)] * 17,):
            self.refuses(BadRows, {"index": -1}, rows_distance, FOUR, 1, rows, None)
            self.refuses(BadRows, {"index": -1}, rows_distance, FOUR, 1, (), rows)
        for row in ((0, 0), (0, 0, 2), (0, 0, True), None):
            self.refuses(BadRows, {"index": 1}, rows_distance, FOUR, 1, [(1, 1, 1), row], [None])
            self.refuses(BadRows, {"index": 0}, rows_distance, FOUR, 1, [(1, 1, 1)], [row, None])


if __name__ == "__main__":
    unittest.main()
