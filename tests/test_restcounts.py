"""Points [4.1] and [4.3] to [4.6]: counts of a lot and of its rest lot."""

import itertools
import unittest
from fractions import Fraction

from rankwords.closed import rest_lot
from rankwords.counting import space_count
from rankwords.errors import BadCounts, BadSizes, NoLot
from rankwords.formulas import met_counts, words_of_rank
from rankwords.restcounts import (completed_counts, counts_fault, identity_sides, rest_counts,
                                  turned_counts)
from rankwords.tables import digits_of_word
from tests.support import (Case, FIELDS, NO_INTEGERS, NO_SEQUENCES, closed_samples, lot_samples,
                           members_of, rng, slow_distance, slow_rank, slow_ranks, tally)

HUGE = 10 ** 139
ONES = (1, 0, 0, 7)
OTHERS = (1, 0, 49, 14)
SMALL = [field for field in FIELDS if field.size <= 9]


def slow_counts(closed):
    return tally([slow_rank(closed.field, word) for word in members_of(closed)], closed.columns)


def small_closed(seed, most=5):
    """Closed lots of which all words can be gone through, and their sizes for the functions."""
    for closed in closed_samples(seed, most):
        if closed.field.size ** closed.columns <= 800:
            field = closed.field
            yield closed, (field.prime, field.degree, closed.columns, closed.size)


def random_counts(chance, columns, size):
    """Counts that begin with 1 and sum to the size, of no lot in most cases."""
    counts = [1] + [0] * columns
    for _ in range(min(size - 1, 40)):
        counts[chance.randrange(1, columns + 1)] += (size - 1) // min(size - 1, 40)
    counts[-1] += size - sum(counts)
    return tuple(counts)


def slow_rest(prime, degree, columns, size, counts):
    """The numbers that solve the identity, as fractions, one after the other."""
    rest = []
    for u in range(columns + 1):
        left = sum(a * space_count(prime, columns - i, u) for i, a in enumerate(counts))
        left = Fraction(left * prime ** (degree * u), size)
        rest.append(left - sum(b * space_count(prime, columns - j, u - j)
                               for j, b in enumerate(rest)))
    return rest


def first_wrong(numbers):
    """The first place whose number is no whole number from 0, or None."""
    for place, number in enumerate(numbers):
        if number < 0 or number != int(number):
            return place
    return None


class SizesTest(Case):
    """What all functions over numbers refuse first, whatever stands behind."""

    def calls(self, *sizes):
        """The calls with prime, degree and columns, good ones and wrong ones behind them."""
        for size, counts in ((8, ONES), (None, None), (3, ()), (8, (0, 0, 0, 8))):
            yield identity_sides, *sizes, size, counts, counts, 0
            yield identity_sides, *sizes, size, counts, counts, None
            yield rest_counts, *sizes, size, counts
            yield counts_fault, *sizes, size, counts
            yield completed_counts, *sizes, size, counts
            yield turned_counts, *sizes, counts

    def told(self, what, *sizes):
        for function, *args in self.calls(*sizes):
            self.refuses(BadSizes, {"what": what}, function, *args)

    def test_prime_degree_columns(self):
        for wrong in NO_INTEGERS + (0, -1, 13, HUGE, -HUGE):
            self.told("prime", wrong, 3, 3)
            self.told("prime", wrong, wrong, wrong)
            self.told("degree", 2, wrong, 3)
            self.told("degree", 3, wrong, wrong)
            self.told("columns", 2, 3, wrong)
        for prime in (1, 4, 5, -2):
            self.told("prime", prime, 3, 3)

    def test_size(self):
        for wrong in NO_INTEGERS + (0, -1, -2, 513, 1024, HUGE, -HUGE):
            for counts in (ONES, None):
                for function in (rest_counts, counts_fault, completed_counts):
                    self.refuses(BadSizes, {"what": "size"}, function, 2, 3, 3, wrong, counts)
                self.refuses(BadSizes, {"what": "size"}, identity_sides, 2, 3, 3, wrong, counts,
                             OTHERS, None)

    def test_size_is_a_power(self):
        for prime, degree, columns in itertools.product((2, 3), (1, 2), (1, 2, 3)):
            whole = prime ** (degree * columns)
            powers = [prime ** e for e in range(degree * columns + 1)]
            for size in range(1, whole + 2):
                args = prime, degree, columns, size
                counts = (1,) + (0,) * columns
                if size in powers:
                    self.assertEqual(identity_sides(*args, counts, counts, 0), (1, size))
                    self.refuses(BadCounts, {"what": "row"}, rest_counts, *args, None)
                    self.assertEqual(counts_fault(*args, None), "row")
                else:
                    for function in (rest_counts, counts_fault):
                        self.refuses(BadSizes, {"what": "size"}, function, *args, counts)
                    self.refuses(BadSizes, {"what": "size"}, identity_sides, *args, counts,
                                 counts, 0)
        for size in (2 ** 144, 3 ** 144):
            prime = 2 + size % 2
            self.refuses(BadCounts, {"what": "row"}, rest_counts, prime, 12, 12, size, None)
            self.refuses(BadSizes, {"what": "size"}, rest_counts, prime, 12, 12, size * prime, None)
        self.refuses(BadSizes, {"what": "size"}, rest_counts, 3, 12, 12, 2 ** 144, None)

    def test_any_size_is_completed(self):
        for size in range(1, 17):
            self.assertEqual(completed_counts(2, 2, 2, size, (1, 2, 3)), (1, 2, 3))
        self.refuses(BadSizes, {"what": "size"}, completed_counts, 2, 2, 2, 17, (1, 2, 3))

    def test_part(self):
        for part in NO_INTEGERS + (-1, 4, HUGE, -HUGE):
            self.refuses(BadSizes, {"what": "part"}, identity_sides, 2, 3, 3, 8, ONES, OTHERS, part)
            self.refuses(BadCounts, {"what": "row"}, identity_sides, 2, 3, 3, 8, None, None, part)
            self.refuses(BadCounts, {"what": "others"}, identity_sides, 2, 3, 3, 8, ONES, None, part)

    def test_columns_above_the_degree(self):
        self.assertEqual(rest_counts(2, 1, 2, 2, (1, 1, 0)), (1, 1, 0))
        self.assertEqual(counts_fault(2, 1, 12, 1, (1,) + (0,) * 12), None)


class RowTest(Case):
    def wrong_rows(self):
        yield from NO_SEQUENCES
        yield from ((), (1, 0, 7), (1, 0, 0, 7, 0), [1] * 9)
        for wrong in NO_INTEGERS + (-1, -HUGE):
            for place in range(4):
                yield ONES[:place] + (wrong,) + ONES[place + 1:]

    def test_row(self):
        for row in self.wrong_rows():
            self.refuses(BadCounts, {"what": "row"}, rest_counts, 2, 3, 3, 8, row)
            self.refuses(BadCounts, {"what": "row"}, turned_counts, 2, 3, 3, row)
            self.refuses(BadCounts, {"what": "row"}, identity_sides, 2, 3, 3, 8, row, None, 0)
            self.refuses(BadCounts, {"what": "others"}, identity_sides, 2, 3, 3, 8, ONES, row, 0)
            self.assertEqual(counts_fault(2, 3, 3, 8, row), "row")

    def test_row_of_first_counts(self):
        for row in NO_SEQUENCES + ((), (1, 0, 0, 0, 0), [1] * 9):
            self.refuses(BadCounts, {"what": "row"}, completed_counts, 2, 3, 3, 8, row)
        for wrong in NO_INTEGERS + (-1, -HUGE):
            for row in ((wrong,), [1, wrong], (0, wrong), (1, 0, wrong), [1, 0, 0, wrong]):
                self.refuses(BadCounts, {"what": "row"}, completed_counts, 2, 3, 3, 8, row)

    def test_first(self):
        for first in (0, 2, 8, HUGE):
            for row in ((first, 0, 0, 8 - first), [first, 0, 0, 7], (first, 1, 1, 1)):
                row = [abs(count) for count in row]
                self.refuses(BadCounts, {"what": "first"}, rest_counts, 2, 3, 3, 8, row)
                self.assertEqual(counts_fault(2, 3, 3, 8, row), "first")
                for many in range(1, 5):
                    self.refuses(BadCounts, {"what": "first"}, completed_counts, 2, 3, 3, 8,
                                 row[:many])

    def test_sum(self):
        for row in ((1, 0, 0, 6), [1, 0, 0, 8], (1, 0, 0, 0), (1, HUGE, 0, 0), (1, 3, 3, 3)):
            self.refuses(BadCounts, {"what": "sum"}, rest_counts, 2, 3, 3, 8, row)
            self.assertEqual(counts_fault(2, 3, 3, 8, row), "sum")

    def test_free_numbers_of_the_identity(self):
        self.assertEqual(identity_sides(2, 3, 3, 8, (0, 0, 0, 0), [0, 0, 0, 0], 1), (0, 0))
        self.assertEqual(identity_sides(2, 3, 3, 8, [5, 0, 0, 0], (0, HUGE, 0, 0), 1),
                         (8 * 5 * 7, 8 * HUGE))


class IdentityTest(Case):
    def test_both_sides(self):
        chance = rng(1)
        for prime, degree, columns in itertools.product((2, 3), (1, 2, 3), (1, 2, 3, 4)):
            for _ in range(5):
                size = prime ** chance.randrange(degree * columns + 1)
                counts = [chance.randrange(50) for _ in range(columns + 1)]
                others = [chance.randrange(50) for _ in range(columns + 1)]
                for u in range(columns + 1):
                    left = prime ** (degree * u) * sum(
                        counts[i] * space_count(prime, columns - i, u) for i in range(columns + 1))
                    right = size * sum(others[j] * space_count(prime, columns - j, u - j)
                                       for j in range(columns + 1))
                    args = prime, degree, columns, size, counts, others, u
                    self.assertEqual(identity_sides(*args), (left, right))
                    self.takes_lists(identity_sides, *args)

    def test_closed_lots(self):
        """Both counts are gone through: the sides are equal for every part."""
        for closed, sizes in small_closed(2):
            counts, others = slow_counts(closed), slow_counts(rest_lot(closed))
            for part in range(closed.columns + 1):
                left, right = identity_sides(*sizes, counts, others, part)
                self.assertEqual(left, right)

    def test_example(self):
        self.assertEqual(identity_sides(2, 3, 3, 8, ONES, OTHERS, 2), (448, 448))
        self.assertEqual(identity_sides(2, 3, 3, 8, ONES, ONES, 2), (448, 56))

    def test_huge(self):
        counts = (1,) + (0,) * 11 + (HUGE,)
        left, right = identity_sides(3, 12, 12, 3, counts, counts, 12)
        self.assertEqual((left, right), (3 ** 144, 3 * (1 + HUGE)))


class RestCountsTest(Case):
    def test_closed_lots(self):
        for closed, sizes in small_closed(3):
            counts, others = slow_counts(closed), slow_counts(rest_lot(closed))
            self.assertEqual(rest_counts(*sizes, counts), others)
            self.takes_lists(rest_counts, *sizes, counts)

    def test_turned_over_tables(self):
        """The same lot with rows and columns exchanged: zeros are put behind or cut off."""
        for closed, (prime, degree, columns, size) in small_closed(4):
            longer = slow_counts(closed) + (0,) * (degree - columns)
            rest = rest_counts(prime, columns, degree, size, longer)
            self.assertEqual(rest[:columns + 1], slow_counts(rest_lot(closed)))
            self.assertFalse(any(rest[columns + 1:]))

    def test_all_counts(self):
        """For all counts with the right sum: the first rank that fails, or back again."""
        for prime, degree, columns in ((2, 1, 2), (2, 2, 2), (2, 3, 2), (3, 1, 2), (3, 2, 2),
                                       (2, 2, 3), (2, 3, 1), (3, 1, 3)):
            whole = prime ** (degree * columns)
            for exponent in range(degree * columns + 1):
                size = prime ** exponent
                if size > 27:
                    continue
                for rest in itertools.product(range(size), repeat=columns):
                    if sum(rest) == size - 1:
                        self.check(prime, degree, columns, size, (1,) + rest, whole)

    def test_random_counts(self):
        chance = rng(5)
        for _ in range(300):
            prime, degree, columns = chance.choice((2, 3)), chance.randint(1, 12), chance.randint(1, 12)
            size = prime ** chance.randint(0, degree * columns)
            counts = random_counts(chance, columns, size)
            self.check(prime, degree, columns, size, counts, prime ** (degree * columns))

    def check(self, prime, degree, columns, size, counts, whole):
        slow = slow_rest(prime, degree, columns, size, counts)
        wrong = first_wrong(slow)
        if wrong is None:
            rest = rest_counts(prime, degree, columns, size, counts)
            self.assertEqual(rest, tuple(slow))
            self.assertEqual(rest_counts(prime, degree, columns, whole // size, rest), counts)
        else:
            self.refuses(NoLot, {"rank": wrong}, rest_counts, prime, degree, columns, size, counts)

    def test_ranks_that_fail(self):
        self.refuses(NoLot, {"rank": 1}, rest_counts, 2, 2, 2, 8, (1, 1, 6))
        self.refuses(NoLot, {"rank": 2}, rest_counts, 2, 2, 2, 8, (1, 7, 0))
        self.refuses(NoLot, {"rank": 3}, rest_counts, 2, 3, 3, 16, (1, 5, 0, 10))
        self.refuses(NoLot, {"rank": 2}, rest_counts, 3, 2, 2, 27, [1, 26, 0])

    def test_met_lots(self):
        """The rest lot of a met closed lot is met, so both counts are told by [4.2]."""
        for prime, degree in itertools.product((2, 3), (3, 7, 12)):
            for columns in range(1, degree + 1):
                for distance in range(1, columns + 2):
                    size = prime ** (degree * (columns - distance + 1))
                    counts = met_counts(prime, degree, columns, distance)
                    rest = met_counts(prime, degree, columns, columns + 2 - distance)
                    self.assertEqual(rest_counts(prime, degree, columns, size, counts), rest)

    def test_example(self):
        self.assertEqual(rest_counts(2, 3, 3, 8, ONES), OTHERS)
        self.assertEqual(rest_counts(2, 3, 3, 64, OTHERS), ONES)


class FaultTest(Case):
    def test_closed_lots(self):
        for closed, sizes in small_closed(6):
            counts = slow_counts(closed)
            self.assertIsNone(counts_fault(*sizes, counts))
            self.assertIsNone(counts_fault(*sizes, list(counts)))

    def test_closed_lots_of_many_members(self):
        for closed in closed_samples(7, 14, 1, FIELDS[4:6]):
            field, columns = closed.field, closed.columns
            self.assertIsNone(counts_fault(field.prime, field.degree, columns, closed.size,
                                           slow_counts(closed)))

    def test_words(self):
        self.assertIsNone(counts_fault(2, 3, 3, 8, ONES))
        self.assertEqual(counts_fault(3, 1, 2, 3, (1, 1, 1)), "multiple")
        self.assertEqual(counts_fault(3, 2, 2, 9, (1, 7, 1)), "multiple")
        self.assertEqual(counts_fault(3, 2, 2, 81, (1, 79, 1)), "multiple")
        self.assertEqual(counts_fault(2, 1, 2, 2, (1, 0, 1)), "most")
        self.assertEqual(counts_fault(2, 3, 3, 64, (1, 50, 0, 13)), "most")
        self.assertNotEqual(counts_fault(2, 3, 3, 64, (1, 49, 0, 14)), "most")
        self.assertEqual(counts_fault(2, 2, 2, 8, [1, 1, 6]), "rest")
        self.assertEqual(counts_fault(2, 2, 2, 8, (1, 7, 0)), "rest")
        self.assertEqual(counts_fault(3, 2, 2, 27, (1, 26, 0)), "rest")

    def test_all_counts(self):
        """All counts of small lots, judged from the words of the point."""
        for prime, degree, columns in ((2, 1, 2), (2, 2, 2), (3, 1, 2), (3, 2, 2), (2, 2, 3)):
            whole = prime ** (degree * columns)
            for exponent in range(degree * columns + 1):
                size = prime ** exponent
                for rest in itertools.product(range(min(size, 28)), repeat=columns):
                    if sum(rest) == size - 1:
                        args = prime, degree, columns, size, (1,) + rest
                        self.assertEqual(counts_fault(*args), self.slow_fault(*args))
                        if self.slow_fault(*args) is None:
                            others = rest_counts(*args)
                            self.assertIsNone(counts_fault(prime, degree, columns, whole // size,
                                                           others))

    def slow_fault(self, prime, degree, columns, size, counts):
        def number_fault(numbers):
            if any(number % (prime - 1) for number in numbers[1:]):
                return "multiple"
            for rank, number in enumerate(numbers):
                if number > words_of_rank(prime, degree, columns, rank):
                    return "most"
            return None
        if number_fault(counts):
            return number_fault(counts)
        rest = slow_rest(prime, degree, columns, size, counts)
        if first_wrong(rest) is not None or number_fault(rest):
            return "rest"
        return None


def character_square(field, lot, word):
    """The square of the length of the sum, over the members, of the unit root to their products.

    The products are the sums of products of flat rows, digit by digit.
    """
    row = digits_of_word(field, word)
    many = [0] * field.prime
    for member in lot.members:
        many[sum(a * b for a, b in zip(row, digits_of_word(field, member))) % field.prime] += 1
    square = sum(number * number for number in many)
    products = sum(a * b for a, b in itertools.combinations(many, 2))
    return square - 2 * products if field.prime == 2 else square - products


def slow_couples(lot):
    ranks = [slow_distance(lot.field, one, other) for one in lot.members for other in lot.members]
    return tally(ranks, lot.columns)


class TurnedTest(Case):
    def test_any_lots(self):
        """T_u gone through over all words of rank u; so none is below 0."""
        for lot in lot_samples(8, 9, 2, SMALL):
            field, columns = lot.field, lot.columns
            if field.size ** columns <= 256:
                wanted = [0] * (columns + 1)
                for word, rank in slow_ranks(field, columns).items():
                    wanted[rank] += character_square(field, lot, word)
                couples = slow_couples(lot)
                args = field.prime, field.degree, columns, couples
                self.assertEqual(turned_counts(*args), tuple(wanted))
                self.assertTrue(all(number >= 0 for number in wanted))
                self.takes_lists(turned_counts, *args)

    def test_closed_lots(self):
        for closed, (prime, degree, columns, size) in small_closed(9, 4):
            couples = [size * count for count in slow_counts(closed)]
            rest = slow_counts(rest_lot(closed))
            self.assertEqual(turned_counts(prime, degree, columns, couples),
                             tuple(size * size * count for count in rest))

    def test_below_zero(self):
        self.assertEqual(turned_counts(2, 1, 1, (2, 2)), (4, 0))
        found = turned_counts(2, 2, 2, (2, 2, 0))
        self.assertEqual(found, tuple(map(int, self.slow(2, 2, 2, (2, 2, 0)))))
        found = turned_counts(2, 2, 2, (4, 12, 0))
        self.assertEqual(found, tuple(map(int, self.slow(2, 2, 2, (4, 12, 0)))))
        self.assertTrue(any(number < 0 for number in turned_counts(2, 2, 2, (10, 90, 0))))

    def test_random_couples(self):
        chance = rng(10)
        for _ in range(200):
            prime, degree, columns = chance.choice((2, 3)), chance.randint(1, 12), chance.randint(1, 12)
            first = chance.choice((1, 2, 7, 10 ** 69))
            couples = [first] + [0] * columns
            for _ in range(5):
                couples[chance.randint(1, columns)] += (first * first - first) // 5
            couples[-1] += first * first - sum(couples)
            args = prime, degree, columns, couples
            self.assertEqual(turned_counts(*args), tuple(map(int, self.slow(*args))))

    def slow(self, prime, degree, columns, couples):
        return slow_rest(prime, degree, columns, 1, couples)

    def test_refused(self):
        for couples in ((0, 0, 0, 0), (0, 1, 0, 0), [0, 0, 0, HUGE]):
            self.refuses(BadCounts, {"what": "first"}, turned_counts, 2, 3, 3, couples)
        for couples in ((8, 0, 0, 55), (8, 0, 0, 57), [1, 0, 0, 1], (2, 1, 0, 0), (HUGE, 0, 0, 0)):
            self.refuses(BadCounts, {"what": "sum"}, turned_counts, 2, 3, 3, couples)
        self.assertEqual(turned_counts(2, 3, 3, (1, 0, 0, 0)), (1, 49, 294, 168))

    def test_example(self):
        self.assertEqual(turned_counts(2, 3, 3, (8, 0, 0, 56)), (64, 0, 3136, 896))


class CompletedTest(Case):
    def test_closed_lots(self):
        """As many first counts as the rest lot lets tell all counts."""
        for closed, sizes in small_closed(11):
            counts, rest = slow_counts(closed), slow_counts(rest_lot(closed))
            columns = closed.columns
            for last in range(columns + 1):
                if not any(rest[1:columns - last]):
                    self.assertEqual(completed_counts(*sizes, counts[:last + 1]), counts)
                    self.takes_lists(completed_counts, *sizes, counts[:last + 1])

    def test_met_lots(self):
        for prime, degree in itertools.product((2, 3), (2, 5, 12)):
            for columns in range(1, degree + 1):
                for distance in range(1, columns + 2):
                    counts = met_counts(prime, degree, columns, distance)
                    size = prime ** (degree * (columns - distance + 1))
                    for many in range(distance, columns + 2):
                        self.assertEqual(
                            completed_counts(prime, degree, columns, size, counts[:many]), counts)

    def test_numbers(self):
        """Each number, or the first that is none, from the words of the point."""
        chance = rng(12)
        for _ in range(400):
            prime, degree, columns = chance.choice((2, 3)), chance.randint(1, 5), chance.randint(1, 5)
            size = chance.choice((chance.randint(1, prime ** (degree * columns)),
                                  prime ** chance.randint(0, degree * columns)))
            first = [1] + [chance.randrange(3) for _ in range(chance.randint(0, columns))]
            numbers = list(first)
            for r in range(len(first), columns + 1):
                numbers.append(Fraction(size * space_count(prime, columns, columns - r),
                                        prime ** (degree * (columns - r)))
                               - sum(a * space_count(prime, columns - i, columns - r)
                                     for i, a in enumerate(numbers)))
            wrong = first_wrong(numbers)
            args = prime, degree, columns, size, first
            if wrong is None:
                self.assertEqual(completed_counts(*args), tuple(numbers))
            else:
                self.refuses(NoLot, {"rank": wrong}, completed_counts, *args)

    def test_all_given(self):
        self.assertEqual(completed_counts(2, 3, 3, 5, [1, HUGE, 0, 9]), (1, HUGE, 0, 9))
        self.assertEqual(completed_counts(2, 3, 3, 8, (1, 0, 0)), ONES)
        self.assertEqual(completed_counts(2, 3, 3, 8, (1, 0)), ONES)
        self.refuses(NoLot, {"rank": 1}, completed_counts, 2, 3, 3, 8, (1,))
        self.refuses(NoLot, {"rank": 3}, completed_counts, 2, 3, 3, 8, (1, 0, 9))


if __name__ == "__main__":
    unittest.main()
