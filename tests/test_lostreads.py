"""Points [6.6] to [6.9]: reading words with told losses."""

import itertools
import unittest

from rankwords.divisions import divided_within
from rankwords.errors import BadWord, TooMany, Unlike
from rankwords.losses import Losses, rest_rank
from rankwords.lostreads import hidden_couple, nearest_lost, read_lost
from rankwords.nearest import Nearest, nearest_members
from rankwords.polylots import PolyLot
from rankwords.reading import Far, Read, read_word
from rankwords.spacepolys import poly_of_space
from rankwords.spaces import all_spaces, contrary
from rankwords.tables import times_table
from tests.support import (Case, EIGHT, FOUR, NINE, NO_INTEGERS, NO_SEQUENCES, SIXTEEN,
                           TWENTY_SEVEN, all_words, error_of_rank, mixed_sum, poly_lots,
                           random_losses, random_poly, random_word, rng, slow_hidden, slow_less,
                           slow_rest_rank, slow_value)

LOT = PolyLot(EIGHT, (1, 2, 4), 1)
NOTHING = Losses(EIGHT, 3, (), ())


def all_losses(field, columns):
    """All losses of so many columns."""
    for r, c in itertools.product(range(columns + 1), range(field.degree + 1)):
        for rows in all_spaces(field.prime, columns, r):
            for digits in all_spaces(field.prime, field.degree, c):
                yield Losses(field, columns, rows, [field.thing_of(row) for row in digits])


def few_losses(chance, polylot, many):
    """Losses of just so many dimensions."""
    while True:
        losses = random_losses(chance, polylot.field, polylot.columns)
        if losses.many == many:
            return losses


def slow_read(polylot, word, losses, ranks=None):
    """What read_lost has to return, by the rest ranks of all members."""
    found = []
    for member in polylot.as_lot():
        error = slow_less(polylot.field, word, member)
        rank = ranks[error] if ranks else rest_rank(losses, error)
        if 2 * rank + losses.many < polylot.distance:
            found.append(Read(polylot.poly_for(member), member, error, rank))
    assert len(found) <= 1
    return found[0] if found else Far(-1)


def slow_ranks(losses):
    hidden = slow_hidden(losses)
    return {word: slow_rest_rank(losses, word, hidden)
            for word in all_words(losses.field, losses.columns)}


class ReadTest(Case):
    def test_gone_through(self):
        """All words and all losses of small lots, by hidden words that are gone through."""
        for field, points in ((FOUR, (1, 2)), (FOUR, (3, 1)), (NINE, (1, 3)), (EIGHT, (5, 2))):
            for terms in (1, 2):
                polylot = PolyLot(field, points, terms)
                for losses in itertools.islice(all_losses(field, 2), 0, None, 1 + field.size // 4):
                    ranks = slow_ranks(losses)
                    for word in all_words(field, 2):
                        self.assertEqual(read_lost(polylot, word, losses),
                                         slow_read(polylot, word, losses, ranks))

    def test_samples(self):
        chance = rng(2)
        for polylot in poly_lots(2, 2):
            if polylot.size <= 256:
                for many in range(polylot.distance + 1):
                    losses = few_losses(chance, polylot, many)
                    for _ in range(4):
                        word = random_word(chance, polylot.field, polylot.columns)
                        self.assertEqual(read_lost(polylot, word, losses),
                                         slow_read(polylot, word, losses))
                        self.takes_lists(lambda y: read_lost(polylot, y, losses), word)

    def changed(self, chance, polylot, losses, rank):
        """A member, its poly, and an error of this rest rank."""
        field, columns = polylot.field, polylot.columns
        poly = random_poly(chance, field, polylot.terms)
        member = tuple(slow_value(field, poly, point) for point in polylot.points)
        while True:
            hidden = mixed_sum(chance, field, columns, losses.rows, losses.things)
            error = tuple(map(field.plus, hidden, error_of_rank(chance, field, columns, rank)))
            if rest_rank(losses, error) == rank:
                return poly, member, error

    def test_just_below_the_distance(self):
        """2 t + many below d: every error is undone, for lots of any size."""
        chance = rng(3)
        for polylot in poly_lots(3):
            field, distance = polylot.field, polylot.distance
            for many in range(distance):
                losses = few_losses(chance, polylot, many)
                for rank in range((distance - many + 1) // 2):
                    poly, member, error = self.changed(chance, polylot, losses, rank)
                    word = tuple(map(field.plus, member, error))
                    self.assertEqual(read_lost(polylot, word, losses),
                                     Read(poly, member, error, rank))

    def test_as_much_lost_as_the_distance(self):
        chance = rng(4)
        for polylot in poly_lots(4):
            for many in range(polylot.distance, polylot.columns + polylot.field.degree + 1):
                losses = few_losses(chance, polylot, many)
                member = polylot.word_for(random_poly(chance, polylot.field, polylot.terms))
                for word in (member, random_word(chance, polylot.field, polylot.columns)):
                    self.assertEqual(read_lost(polylot, word, losses), Far(-1))

    def test_nothing_lost(self):
        chance = rng(5)
        for polylot in poly_lots(5):
            losses = Losses(polylot.field, polylot.columns, (), ())
            for _ in range(6):
                word = random_word(chance, polylot.field, polylot.columns)
                plain = read_word(polylot, word)
                wanted = plain if isinstance(plain, Read) else Far(-1)
                self.assertEqual(read_lost(polylot, word, losses), wanted)

    def test_the_told_way(self):
        """Point [6.7]: in the lot of the mixed points with more terms the same poly is found."""
        chance = rng(6)
        for polylot in poly_lots(6):
            field, columns = polylot.field, polylot.columns
            for many in range(polylot.distance):
                losses = few_losses(chance, polylot, many)
                zeros = poly_of_space(field, losses.things)
                outside = contrary(field.prime, columns, losses.rows)
                table = [[row[place] for row in outside] for place in range(columns)]
                lot = PolyLot(field, times_table(field, polylot.points, table),
                              polylot.terms + len(losses.things))
                self.assertEqual(lot.distance, polylot.distance - many)
                word = random_word(chance, field, columns)
                left = times_table(field, [slow_value(field, zeros, x) for x in word], table)
                read, found = read_word(lot, left), read_lost(polylot, word, losses)
                if isinstance(read, Read) and not divided_within(field, read.poly, zeros)[1]:
                    self.assertEqual(found.poly, divided_within(field, read.poly, zeros)[0])
                    self.assertEqual(found.rank, read.rank)
                else:
                    self.assertEqual(found, Far(-1))

    def test_a_rest_of_the_division(self):
        """Once the losses are out all words have a poly, but of most of them none of a member."""
        polylot, losses = PolyLot(EIGHT, (1, 2), 1), Losses(EIGHT, 2, (), [1])
        lot = PolyLot(EIGHT, (1, 2), 2)
        for word in all_words(EIGHT, 2):
            poly = lot.poly_for([slow_value(EIGHT, (1, 1), x) for x in word])
            quotient, rest = divided_within(EIGHT, poly, (1, 1))
            found = read_lost(polylot, word, losses)
            self.assertEqual(found, slow_read(polylot, word, losses))
            self.assertEqual(isinstance(found, Far), rest != ())
            if not rest:
                self.assertEqual(found.poly, quotient)

    def test_great_lots(self):
        lot = PolyLot(SIXTEEN, (1, 2, 4, 8), 2)
        losses = Losses(SIXTEEN, 4, [(1, 1, 0, 0)], [6])
        word = (1 ^ 9 ^ 6, 2 ^ 9, 4, 8 ^ 6)
        self.assertEqual(read_lost(lot, word, losses),
                         Read((1,), (1, 2, 4, 8), (9 ^ 6, 9, 0, 6), 0))
        lot = PolyLot(TWENTY_SEVEN, (1, 3, 9), 2)
        self.assertEqual(read_lost(lot, (0, 3, 9), Losses(TWENTY_SEVEN, 3, [(1, 0, 0)], ())),
                         Read((1,), (1, 3, 9), (2, 0, 0), 0))

    def test_example(self):
        read = Read((1,), (1, 2, 4), (1, 0, 0), 0)
        self.assertEqual(read_lost(LOT, (0, 2, 4), Losses(EIGHT, 3, [(1, 0, 0)], ())), read)
        read = Read((1,), (1, 2, 4), (1, 0, 0), 1)
        self.assertEqual(read_lost(LOT, (0, 2, 4), NOTHING), read)


class RefusedTest(Case):
    def test_words(self):
        other = Losses(FOUR, 2, (), ())
        for function in (read_lost, nearest_lost):
            for word in NO_SEQUENCES + ((), (1, 2), (1, 2, 3, 4)):
                self.refuses(BadWord, {"index": -1}, function, LOT, word, NOTHING)
                self.refuses(BadWord, {"index": -1}, function, LOT, word, other)
            for thing in NO_INTEGERS + (-1, 8):
                self.refuses(BadWord, {"index": 1}, function, LOT, (0, thing, None), other)

    def test_unlike(self):
        for other in (Losses(EIGHT, 2, (), ()), Losses(SIXTEEN, 3, (), ()),
                      Losses(TWENTY_SEVEN, 3, [(1, 0, 0)], [1])):
            self.refuses(Unlike, {}, read_lost, LOT, (0, 2, 4), other)
            self.refuses(Unlike, {}, nearest_lost, LOT, (0, 2, 4), other)
            self.refuses(Unlike, {}, hidden_couple, LOT, other)

    def test_too_many_ahead_of_all(self):
        for polylot in poly_lots(7):
            if polylot.size > 256:
                for word in ((0,) * polylot.columns, None):
                    self.refuses(TooMany, {"size": polylot.size}, nearest_lost, polylot, word,
                                 Losses(FOUR, 1, (), ()))


class NearestTest(Case):
    def test_gone_through(self):
        chance = rng(8)
        for polylot in poly_lots(8, 2):
            field, columns = polylot.field, polylot.columns
            if polylot.size <= 256 and field.size ** columns <= 512:
                losses = random_losses(chance, field, columns)
                hidden = slow_hidden(losses)
                if len(hidden) * polylot.size > 4000:
                    continue
                word = random_word(chance, field, columns)
                ranks = {member: slow_rest_rank(losses, slow_less(field, word, member), hidden)
                         for member in polylot.all_members()}
                least = min(ranks.values())
                wanted = Nearest(least, tuple(sorted(m for m in ranks if ranks[m] == least)))
                self.assertEqual(nearest_lost(polylot, word, losses), wanted)
                self.takes_lists(lambda y: nearest_lost(polylot, y, losses), word)

    def test_nothing_lost(self):
        chance = rng(9)
        for polylot in poly_lots(9):
            if polylot.size <= 256:
                word = random_word(chance, polylot.field, polylot.columns)
                losses = Losses(polylot.field, polylot.columns, (), ())
                self.assertEqual(nearest_lost(polylot, word, losses),
                                 nearest_members(polylot, word))

    def test_all_lost(self):
        units = [(1, 0, 0), (0, 1, 0), (0, 0, 1)]
        for losses in (Losses(EIGHT, 3, units, ()), Losses(EIGHT, 3, (), (1, 2, 4))):
            found = nearest_lost(LOT, (5, 6, 7), losses)
            self.assertEqual((found.rank, found.members), (0, tuple(LOT.all_members())))

    def test_what_is_read_is_nearest(self):
        chance = rng(10)
        for polylot in poly_lots(10):
            if polylot.size <= 256:
                losses = few_losses(chance, polylot, chance.randrange(polylot.distance))
                word = random_word(chance, polylot.field, polylot.columns)
                read, found = read_lost(polylot, word, losses), nearest_lost(polylot, word, losses)
                if 2 * found.rank + losses.many < polylot.distance:
                    self.assertEqual((read.rank, (read.word,)), (found.rank, found.members))
                else:
                    self.assertEqual(read, Far(-1))


class HiddenTest(Case):
    def check(self, polylot, losses, couple):
        one, other = couple
        self.assertTrue(polylot.holds(one) and polylot.holds(other))
        self.assertNotEqual(one, other)
        self.assertEqual(rest_rank(losses, slow_less(polylot.field, one, other)), 0)

    def test_all_losses(self):
        for field, points in ((FOUR, (1, 2)), (NINE, (1, 4)), (EIGHT, (1, 2, 4))):
            for terms in range(1, len(points)):
                polylot = PolyLot(field, points, terms)
                members = [word for word in polylot.all_members() if any(word)]
                for losses in all_losses(field, len(points)):
                    couple = hidden_couple(polylot, losses)
                    hidden = any(rest_rank(losses, word) == 0 for word in members)
                    self.assertEqual(couple is not None, hidden)
                    if couple is not None:
                        self.check(polylot, losses, couple)

    def test_told_cases(self):
        chance = rng(11)
        for polylot in poly_lots(11, 2):
            m, n, k = polylot.field.degree, polylot.columns, polylot.terms
            for many in range(n + m + 1):
                losses = few_losses(chance, polylot, many)
                rows, things = len(losses.rows), len(losses.things)
                couple = hidden_couple(polylot, losses)
                if many < polylot.distance:
                    self.assertIsNone(couple)
                if rows >= polylot.distance or m * (k + rows) + things * (n - rows) > m * n:
                    self.assertIsNotNone(couple)
                if couple is not None:
                    self.check(polylot, losses, couple)
                    self.assertEqual(read_lost(polylot, couple[0], losses), Far(-1))

    def test_at_the_distance_and_below(self):
        found = [hidden_couple(LOT, Losses(EIGHT, 3, (), things))
                 for things in ((1, 2, 4), (1, 2), (1,), ())]
        self.assertIsNotNone(found[0])
        self.assertEqual(found[1:], [None, None, None])
        # Two rows and a thing: as many as the distance.
        losses = Losses(EIGHT, 3, [(1, 0, 0), (0, 1, 0)], [4])
        self.check(LOT, losses, hidden_couple(LOT, losses))

    def test_error_can_be_undone(self):
        """Without a couple, no two members differ by a hidden word; so hidden errors are told."""
        chance = rng(12)
        for polylot in poly_lots(12):
            if polylot.size <= 256:
                losses = random_losses(chance, polylot.field, polylot.columns)
                member = polylot.word_for(random_poly(chance, polylot.field, polylot.terms))
                found = nearest_lost(polylot, member, losses)
                self.assertEqual(found.rank, 0)
                self.assertEqual(len(found.members) == 1, hidden_couple(polylot, losses) is None)


if __name__ == "__main__":
    unittest.main()
