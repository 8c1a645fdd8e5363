"""The main promises, over the whole program: small fields and lots gone through whole."""

import itertools
import unittest

from rankwords.backs import points_of
from rankwords.bench import Bench, try_edits
from rankwords.bounds import bound_of, is_met, member_with_head
from rankwords.clashes import clash_fault, find_clash
from rankwords.closed import ClosedLot, rest_lot
from rankwords.counts import counts_of, rank_counts
from rankwords.datas import number_of, poly_of_number, poly_with_head
from rankwords.deeds import net_bound, run_net
from rankwords.errors import Held
from rankwords.fieldtext import field_text, read_field, read_word_text, word_text
from rankwords.goals import first_unmet
from rankwords.joined import mixed, shortened, stepped_lot, struck
from rankwords.likes import (mixed_points, same_lot, scaled_points, shortened_points, stepped_points,
                             struck_points)
from rankwords.losses import Losses, rest_rank
from rankwords.lostreads import read_lost
from rankwords.lots import Lot, distance_of
from rankwords.lottext import lot_text, read_lot
from rankwords.mends import find_mends, find_spoilers
from rankwords.packets import packets_of, rows_distance
from rankwords.polylots import PolyLot
from rankwords.reading import Far, Read, read_word
from rankwords.received import net_fault, net_for, received_form, received_rows
from rankwords.restcounts import rest_counts
from rankwords.sent import nearest_sent, read_rows
from rankwords.spaces import all_spaces, contrary
from rankwords.stores import Store
from rankwords.tables import rows_space, table_of, word_sum
from rankwords.within import members_within
from tests.support import (Case, EIGHT, FIELDS, FOUR, NINE, SIXTEEN, TWO, all_polys, all_words,
                           poly_lots, random_edit, random_net, random_points, random_poly, rng,
                           slow_distance, slow_less, slow_rank, spanned_rows, tally)


def all_closed(field, columns):
    """All closed lots of so many columns, if their flat rows have at most four digits."""
    width = columns * field.degree
    for dimension in range(width + 1):
        for rows in all_spaces(field.prime, width, dimension):
            yield ClosedLot(field, columns, [
                [field.thing_of(row[start:start + field.degree])
                 for start in range(0, width, field.degree)] for row in rows])


def all_poly_lots(field, columns):
    """All poly lots of so many columns."""
    for points in all_words(field, columns):
        if slow_rank(field, points) == columns:
            for terms in range(1, columns + 1):
                yield PolyLot(field, points, terms)


def all_losses(field, columns):
    for rows in range(columns + 1):
        for things in range(field.degree + 1):
            for lost in all_spaces(field.prime, columns, rows):
                for digits in all_spaces(field.prime, field.degree, things):
                    yield Losses(field, columns, lost, [field.thing_of(row) for row in digits])


class BoundTest(Case):
    def check(self, field, columns, members):
        lot = Lot(field, columns, members)
        distance = distance_of(lot).distance
        bound = bound_of(field, columns, distance)
        self.assertLessEqual(lot.size, bound)
        self.assertEqual(is_met(lot), lot.size == bound)
        if lot.size == bound:
            kept = columns - distance + 1
            for head in all_words(field, kept):
                begun = [word for word in lot if word[:kept] == head]
                self.assertEqual(begun, [member_with_head(lot, head)])
        return lot.size == bound

    def test_all_small_lots(self):
        met = 0
        for field, columns, most in ((TWO, 1, 2), (FOUR, 1, 4), (FIELDS[0], 1, 2), (FIELDS[6], 1, 3),
                                     (EIGHT, 1, 8), (FOUR, 2, 3)):
            words = list(all_words(field, columns))
            for size in range(1, most + 1):
                for members in itertools.combinations(words, size):
                    met += self.check(field, columns, members)
        self.assertGreater(met, 20)

    def test_met_lots_of_four(self):
        """Of all lots of four words of two columns with that of zeros two are met: poly lots."""
        words, met = list(all_words(FOUR, 2))[1:], 0
        for members in itertools.combinations(words, 3):
            met += self.check(FOUR, 2, ((0, 0),) + members)
        self.assertEqual(met, 2)
        for points in ((1, 2), (1, 3)):
            self.assertTrue(self.check(FOUR, 2, PolyLot(FOUR, points, 1).as_lot().members))


class CountsTest(Case):
    def test_all_small_closed_lots(self):
        for field, columns in ((TWO, 1), (FOUR, 1), (FOUR, 2), (EIGHT, 1), (SIXTEEN, 1), (NINE, 1),
                               (NINE, 2)):
            for closed in all_closed(field, columns):
                rest = rest_lot(closed)
                counts = counts_of(closed.as_lot())
                self.assertEqual(rank_counts(closed), counts)
                self.assertEqual(counts_of(rest.as_lot()), rest_counts(
                    field.prime, field.degree, columns, closed.size, counts))
                for rows in range(columns + 1):
                    for space in all_spaces(field.prime, columns, rows):
                        outside = contrary(field.prime, columns, space)
                        self.assertEqual(
                            members_within(closed, space) * field.size ** (columns - rows),
                            closed.size * members_within(rest, outside))

    def test_within_gone_through(self):
        for closed in all_closed(FOUR, 2):
            members = closed.as_lot().members
            for rows in range(3):
                for space in all_spaces(2, 2, rows):
                    inside = spanned_rows(2, 2, space)
                    many = sum(all(row in inside for row in rows_space(FOUR, word)) for word in members)
                    self.assertEqual(members_within(closed, space), many)


class ErrorsTest(Case):
    def test_all_words_are_read_or_far(self):
        for field, columns in ((TWO, 1), (FOUR, 2), (EIGHT, 2), (EIGHT, 3)):
            polylot = PolyLot(field, random_points(rng(columns), field, columns), 1)
            members = list(polylot.all_members())
            for word in all_words(field, columns):
                ranks = {member: slow_distance(field, word, member) for member in members}
                near = [member for member in members if 2 * ranks[member] < polylot.distance]
                read = read_word(polylot, word)
                if near:
                    self.assertEqual([read.word], near)
                    self.assertEqual(read.rank, ranks[near[0]])
                else:
                    self.assertEqual(read, Far(min(ranks.values())))

    def test_all_losses(self):
        """Every word of a small lot, with all losses that there are."""
        for polylot in (PolyLot(FOUR, (3, 1), 1), PolyLot(FOUR, (1, 2), 2), PolyLot(TWO, (1,), 1)):
            field, columns = polylot.field, polylot.columns
            members = list(polylot.all_members())
            for losses in all_losses(field, columns):
                for word in all_words(field, columns):
                    ranks = {member: rest_rank(losses, slow_less(field, word, member))
                             for member in members}
                    fits = [member for member in members
                            if 2 * ranks[member] + losses.many < polylot.distance]
                    read = read_lost(polylot, word, losses)
                    if fits:
                        self.assertEqual([read.word], fits)
                        self.assertEqual(read.rank, ranks[read.word])
                    else:
                        self.assertEqual(read, Far(-1))

    def test_at_the_distance(self):
        for polylot in poly_lots(1):
            for rows in range(polylot.distance + 1):
                for things in range(polylot.distance - rows + 1):
                    errors, odd = divmod(polylot.distance - rows - things, 2)
                    if odd == 0:
                        clash = find_clash(polylot, rows, things, errors)
                        self.assertIsNone(clash_fault(polylot, rows, things, errors, clash))
                        self.assertEqual(read_lost(polylot, clash.word, clash.losses), Far(-1))

    def test_bears(self):
        """A poly lot that meets the goal reads back every member so changed."""
        polylot = PolyLot(EIGHT, (3, 1, 6), 1)
        words = [word for word in all_words(EIGHT, 3) if slow_rank(EIGHT, word) <= 1]
        for errors, rows, things in itertools.product(range(2), range(3), range(3)):
            met = first_unmet(polylot, [("bears", errors, rows, things)]) is None
            self.assertEqual(met, 2 * errors + rows + things < 3)
            if met:
                losses = Losses(EIGHT, 3, [(1, 1, 0), (0, 1, 1)][:rows], [5, 3][:things])
                for change in words[::7]:
                    if rest_rank(losses, change) <= errors:
                        for member in polylot.all_members():
                            word = word_sum(EIGHT, member, change)
                            self.assertEqual(read_lost(polylot, word, losses).word, member)


class StoreTest(Case):
    def test_all_contents(self):
        """Every word that the table can show, for every poly that was written."""
        polylot = PolyLot(EIGHT, (1, 4), 1)
        cells = [(row, column) for row in range(3) for column in range(2)]
        for poly in all_polys(EIGHT, 1):
            for digits in itertools.product(range(2), repeat=6):
                store = Store(polylot)
                store.write(poly)
                store.spoil([cell + (digit,) for cell, digit in zip(cells, digits)])
                if 2 * store.spoilt_lanes() < polylot.distance:
                    self.assertEqual(store.read_plain().poly, poly)
                for rows, places in (((), (0,)), ((), (1,)), ((0,), ()), ((1,), ()), ((2,), ())):
                    if 2 * store.spoilt_lanes(rows, places) + 1 < polylot.distance:
                        self.assertEqual(store.read_known(rows, places).poly, poly)

    def test_written_spoilt_mended_read(self):
        """A number is written as a poly, one lane is spoilt, and the number is read again."""
        polylot = PolyLot(EIGHT, (1, 2, 4), 1)
        for number in range(polylot.size):
            for place in range(3):
                for digits in itertools.product(range(2), repeat=3):
                    for lane in ([(row, place) for row in range(3)], [(place, at) for at in range(3)]):
                        store = Store(polylot)
                        store.write(poly_of_number(polylot, number))
                        store.spoil([cell + (digit,) for cell, digit in zip(lane, digits)])
                        self.assertEqual(store.mend(), sum(
                            table_of(EIGHT, store.shown)[row][column] != digit
                            for (row, column), digit in zip(lane, digits)))
                        self.assertEqual(number_of(polylot, store.written), number)


class NetTest(Case):
    def test_sent_is_received(self):
        """A number goes as packets through nets, and is read at the other end."""
        chance, done = rng(2), 0
        for polylot in poly_lots(2, 6):
            field, columns = polylot.field, polylot.columns
            number = chance.randrange(polylot.size)
            word = polylot.word_for(poly_of_number(polylot, number))
            net = random_net(chance, field, columns, columns, 4)
            rows = run_net(net, packets_of(field, word))
            lost, false = net_bound(net)
            far = rows_distance(field, columns, packets_of(field, word), rows)
            self.assertLessEqual(far, 2 * false + lost)
            read = read_rows(polylot, rows)
            if far < polylot.distance:
                self.assertEqual(number_of(polylot, read.poly), number)
                done += far > 0
            best = net_for(field, word, rows)
            self.assertIsNone(net_fault(field, word, rows, best))
            self.assertEqual(read_rows(polylot, run_net(best, packets_of(field, word))), read)
            form = received_form(field, columns, rows)
            self.assertEqual(received_form(field, columns, received_rows(form.losses, form.word)), form)
        self.assertGreater(done, 10)

    def test_all_spaces(self):
        polylot = PolyLot(FOUR, (2, 1), 1)
        members = list(polylot.all_members())
        for many in range(5):
            for rows in all_spaces(2, 4, many):
                near = [word for word in members
                        if rows_distance(FOUR, 2, packets_of(FOUR, word), rows) < 2]
                read = read_rows(polylot, rows)
                if near:
                    self.assertEqual([read.word], near)
                    self.assertEqual(nearest_sent(polylot.as_lot(), rows)[1], tuple(near))
                else:
                    self.assertEqual(read, Far(-1))
                    self.assertGreaterEqual(nearest_sent(polylot.as_lot(), rows)[0], 2)


class PointsTest(Case):
    def test_read_back(self):
        """The points of every small poly lot of fewer terms than columns, up to one thing."""
        for field, columns in ((FOUR, 1), (FOUR, 2), (EIGHT, 2), (EIGHT, 3), (NINE, 2)):
            for polylot in all_poly_lots(field, columns):
                if polylot.points[0] < 3 and polylot.terms < columns:
                    points = points_of(polylot.as_closed())
                    other = PolyLot(field, points, polylot.terms)
                    self.assertEqual(scaled_points(other, polylot.points[0]), polylot)
                    self.assertTrue(same_lot(polylot, other))

    def test_points_and_members_go_along(self):
        """What is done to the points is done to the members, for all small poly lots."""
        turned = ((0, 1), (1, 1))
        for field in (FOUR, EIGHT):
            for polylot in all_poly_lots(field, 2):
                closed = polylot.as_closed()
                for column in range(2):
                    self.assertEqual(struck_points(polylot, column).as_closed(), struck(closed, column))
                    if polylot.terms == 2:
                        self.assertEqual(shortened_points(polylot, column).as_closed(),
                                         shortened(closed, column))
                self.assertEqual(mixed_points(polylot, turned).as_closed(), mixed(closed, turned))
                self.assertEqual(stepped_points(polylot, 1).as_closed(), stepped_lot(closed, 1))


class TextTest(Case):
    def test_what_is_written_is_read(self):
        for field in FIELDS:
            self.assertEqual(read_field(field_text(field)), field)
        for closed in all_closed(FOUR, 2):
            lot = closed.as_lot()
            self.assertEqual(read_lot(lot_text(lot)), lot)
            self.assertEqual(ClosedLot(FOUR, 2, read_lot(lot_text(lot)).members), closed)
        for word in all_words(NINE, 2):
            self.assertEqual(read_word_text(NINE, word_text(NINE, word)), word)


class BenchTest(Case):
    def test_numbers_and_heads(self):
        for polylot in (PolyLot(FOUR, (1, 3), 1), PolyLot(FOUR, (2, 3), 2), PolyLot(EIGHT, (5, 1), 2)):
            lot = polylot.as_lot()
            found = []
            for number in range(polylot.size):
                poly = poly_of_number(polylot, number)
                self.assertEqual(number_of(polylot, poly), number)
                word = polylot.word_for(poly)
                self.assertEqual(poly_with_head(polylot, word[:polylot.terms]), poly)
                self.assertEqual(member_with_head(lot, word[:polylot.terms]), word)
                found.append(word)
            self.assertEqual(sorted(found), list(lot))

    def test_what_is_taken_back_is_as_before(self):
        """Words are read in, led along by edits, and are there again when all is taken back."""
        chance = rng(3)
        for polylot in poly_lots(3, 3):
            bench = Bench(polylot)
            for _ in range(3):
                poly = random_poly(chance, polylot.field, polylot.terms)
                self.assertEqual(bench.read_in(polylot.word_for(poly)).poly, poly)
            start = bench.polys, bench.words, bench.log
            for _ in range(6):
                edit = random_edit(chance, polylot.field, bench.current.columns)
                before = bench.current, bench.polys, bench.words, bench.log
                try:
                    unmet = try_edits(bench, [edit], [("size", polylot.size)])
                except ValueError as refused:
                    self.assertEqual((bench.current, bench.polys, bench.words, bench.log), before)
                    with self.assertRaises(refused.__class__):
                        bench.make(edit)
                    self.assertEqual((bench.current, bench.polys, bench.words, bench.log), before)
                    continue
                bench.make(edit)
                self.assertEqual(first_unmet(bench.current, [("size", polylot.size)]), unmet)
                for word, poly in zip(bench.words, bench.polys):
                    self.assertEqual(bench.current.poly_for(word), poly)
            while bench.log != start[2]:
                bench.take_back()
            self.assertEqual((bench.current, bench.polys, bench.words), (polylot,) + start[:2])

    def test_mends_on_the_bench(self):
        """Behind each mend the goals are met, also on a bench; behind each spoiler one is not."""
        chance, found = rng(4), 0
        for polylot in poly_lots(4, 3):
            pool = [random_edit(chance, polylot.field, polylot.columns) for _ in range(4)]
            goals = [("distance", min(polylot.distance + chance.randrange(2),
                                      polylot.field.degree + 1))]
            for indexes in find_mends(polylot, pool, goals):
                edits = [pool[index] for index in indexes]
                self.assertIsNone(try_edits(Bench(polylot), edits, goals))
                found += len(edits) > 0
            for indexes in find_spoilers(polylot, pool, goals):
                self.assertEqual(try_edits(Bench(polylot), [pool[index] for index in indexes], goals), 0)
        self.assertGreater(found, 5)

    def test_held_words_count(self):
        bench = Bench(PolyLot(SIXTEEN, (1, 2, 4), 2))
        self.assertEqual(bench.read_in((3, 6, 12)), Read((3,), (3, 6, 12), (0, 0, 0), 0))
        bench.read_in(bench.current.word_for((1, 1)))
        self.refuses(Held, {"index": 1}, bench.make, ("terms", 1))
        bench.take_back()
        bench.make(("terms", 1))
        bench.make(("point", 8))
        self.assertEqual(bench.words, ((3, 6, 12, 11),))
        # Behind the edits the distance is 4, so that one error is undone.
        self.assertEqual(bench.read_in((3, 6, 12, 0)).poly, (3,))
        self.assertEqual(bench.polys, ((3,), (3,)))


class RanksTest(Case):
    def test_steps_and_mixing_keep_the_counts(self):
        for closed in all_closed(FOUR, 2):
            members = [word for word in closed.all_members()]
            counts = tally([slow_rank(FOUR, word) for word in members], 2)
            for lot in (stepped_lot(closed, 1), mixed(closed, ((0, 1), (1, 1))),
                        mixed(closed, ((1, 0), (1, 1)))):
                self.assertEqual(counts_of(lot.as_lot()), counts)


if __name__ == "__main__":
    unittest.main()
