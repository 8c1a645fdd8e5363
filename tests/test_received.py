"""Points [8.7] to [8.10]: what arrives, and nets that lead there."""

import unittest

from rankwords.deeds import Net, net_behind, net_bound, run_net
from rankwords.errors import BadColumns, BadRows, BadWord
from rankwords.losses import Losses, rest_rank
from rankwords.packets import packets_of, rows_distance
from rankwords.received import (Received, net_fault, net_for, parting_of, received_form,
                                received_rows)
from rankwords.spaces import all_spaces, contrary, echelon, things_space
from tests.support import (Case, EIGHT, FIELDS, FOUR, NINE, NO_INTEGERS, NO_SEQUENCES, SIXTEEN, TWO,
                           all_words, dimension_of, made_of_tuples, random_losses, random_net,
                           random_packets, random_word, rng, slow_less, spanned_rows,
                           spanned_things)

ROWS = ((0, 1, 0, 0, 1, 0), (0, 0, 1, 0, 0, 1), (0, 0, 0, 1, 1, 0))


def samples(seed, many=4, fields=FIELDS):
    chance = rng(seed)
    for field in fields:
        for columns in range(1, field.degree + 1):
            for _ in range(many):
                yield chance, field, columns


def all_small():
    """All spaces of packets of at most four digits, with their fields and columns."""
    for field in FIELDS:
        for columns in range(1, field.degree + 1):
            width = columns + field.degree
            if width <= 4 and field.size < 9:
                for many in range(width + 1):
                    for basis in all_spaces(field.prime, width, many):
                        yield field, columns, basis


def near_packets(chance, field, columns, most=3):
    """Packets that share some rows with the sent space of a word."""
    word = random_word(chance, field, columns)
    packets = list(packets_of(field, word))
    chance.shuffle(packets)
    rows = packets[:chance.randrange(columns + 1)] + list(random_packets(chance, field, columns, most))
    chance.shuffle(rows)
    return word, tuple(rows)


def end_of(field, front, word):
    """The sum of the digits times the things."""
    end = 0
    for digit, thing in zip(front, word):
        end = field.plus(end, field.multiple(digit, thing))
    return end


def slow_received(losses, word):
    """All rows with a front in the contrary of the rows, each with all the ends that it can have."""
    field = losses.field
    fronts = spanned_rows(field.prime, losses.columns,
                          contrary(field.prime, losses.columns, losses.rows))
    return {front + field.digits_of(field.plus(end_of(field, front, word), thing))
            for front in fronts for thing in spanned_things(field, losses.things)}


def all_rows(field, columns, rows):
    return spanned_rows(field.prime, columns + field.degree, rows)


class RowsTest(Case):
    def test_samples(self):
        for chance, field, columns in samples(1):
            losses, word = random_losses(chance, field, columns), random_word(chance, field, columns)
            rows = received_rows(losses, word)
            self.assertEqual(all_rows(field, columns, rows), slow_received(losses, word))
            self.assertEqual(len(rows), columns - len(losses.rows) + len(losses.things))
            self.assertEqual(echelon(field.prime, columns + field.degree, rows), rows)
            self.takes_lists(received_rows, losses, word)

    def test_nothing_lost(self):
        for chance, field, columns in samples(2):
            word = random_word(chance, field, columns)
            self.assertEqual(received_rows(Losses(field, columns, (), ()), word),
                             packets_of(field, word))

    def test_all_lost(self):
        unit = ((1, 0, 0), (0, 1, 0), (0, 0, 1))
        self.assertEqual(received_rows(Losses(EIGHT, 3, unit, ()), (1, 2, 4)), ())
        self.assertEqual(received_rows(Losses(EIGHT, 3, unit, (3,)), (1, 2, 4)),
                         ((0, 0, 0, 1, 1, 0),))
        self.assertEqual(received_rows(Losses(EIGHT, 3, unit[:1], (3,)), (0, 2, 4)), ROWS)

    def test_refused(self):
        losses = Losses(EIGHT, 2, [(1, 1)], [3])
        for word in NO_SEQUENCES + ((), (0,), (0,) * 3):
            self.refuses(BadWord, {"index": -1}, received_rows, losses, word)
        for thing in NO_INTEGERS + (-1, 8):
            self.refuses(BadWord, {"index": 1}, received_rows, losses, [7, thing])


class FormTest(Case):
    def check(self, field, columns, rows):
        """The losses and the word are as told, by all rows of the space."""
        prime, inside = field.prime, all_rows(field, columns, rows)
        form = received_form(field, columns, rows)
        self.assertIs(type(form), Received)
        self.assertEqual((form.losses.field, form.losses.columns), (field, columns))
        fronts = [row[:columns] for row in inside]
        self.assertEqual(form.losses.rows, contrary(prime, columns, sorted(set(fronts))))
        ends = {field.thing_of(row[columns:]) for row in inside if not any(row[:columns])}
        self.assertEqual(spanned_things(field, form.losses.things), ends)
        self.assertEqual(things_space(field, form.losses.things), form.losses.things)
        basis = echelon(prime, columns + field.degree, rows)
        word = [0] * columns
        for row in basis:
            if any(row[:columns]):
                word[row.index(1)] = field.thing_of(row[columns:])
        self.assertEqual(form.word, tuple(word))
        self.assertEqual(received_rows(form.losses, form.word), basis)
        return form

    def test_samples(self):
        for chance, field, columns in samples(3):
            rows = random_packets(chance, field, columns, 7)
            self.check(field, columns, rows)
            self.takes_lists(received_form, field, columns, rows)

    def test_all_small(self):
        many = 0
        for field, columns, basis in all_small():
            form = self.check(field, columns, basis)
            many += 1
            # The other words that do are just those that differ by what the losses hide.
            for word in all_words(field, columns):
                self.assertEqual(received_rows(form.losses, word) == basis,
                                 rest_rank(form.losses, slow_less(field, word, form.word)) == 0)
        self.assertGreater(many, 100)

    def test_by_the_space_alone(self):
        for chance, field, columns in samples(4):
            rows = random_packets(chance, field, columns, 6)
            form = received_form(field, columns, rows)
            inside = sorted(all_rows(field, columns, rows))
            others = rows + tuple(chance.choice(inside) for _ in range(5))
            others = tuple(chance.sample(others, len(others)))
            self.assertEqual(received_form(field, columns, others), form)
            basis = echelon(field.prime, columns + field.degree, rows)
            self.assertEqual(received_form(field, columns, basis), form)

    def test_back(self):
        """What is received of a word tells the same losses, and a word that does as well."""
        for chance, field, columns in samples(5):
            losses, word = random_losses(chance, field, columns), random_word(chance, field, columns)
            form = received_form(field, columns, received_rows(losses, word))
            self.assertEqual(form.losses, losses)
            self.assertEqual(rest_rank(losses, slow_less(field, word, form.word)), 0)

    def test_without_rows(self):
        for _, field, columns in samples(6, 1):
            unit = [[int(place == at) for at in range(columns)] for place in range(columns)]
            wanted = Received((0,) * columns, Losses(field, columns, unit, ()))
            self.assertEqual(received_form(field, columns, ()), wanted)
            zeros = [[0] * (columns + field.degree)] * 16
            self.assertEqual(received_form(field, columns, zeros), wanted)

    def test_without_fronts_and_without_ends(self):
        unit = ((1, 0), (0, 1))
        form = received_form(FOUR, 2, [(0, 0, 1, 1), (0, 0, 0, 1)])
        self.assertEqual(form, Received((0, 0), Losses(FOUR, 2, unit, (1, 2))))
        form = received_form(FOUR, 2, [(1, 1, 0, 0)])
        self.assertEqual(form, Received((0, 0), Losses(FOUR, 2, [(1, 1)], ())))
        form = received_form(FOUR, 2, [[int(place == at) for at in range(4)] for place in range(4)] * 4)
        self.assertEqual(form, Received((0, 0), Losses(FOUR, 2, (), (1, 2))))
        form = received_form(FOUR, 2, [(0, 1, 1, 1), (1, 0, 0, 1)])
        self.assertEqual(form, Received((2, 3), Losses(FOUR, 2, (), ())))

    def test_kept_as_given(self):
        word, losses = [1], "x"
        form = Received(word, losses)
        self.assertIs(form.word, word)
        self.assertIs(form.losses, losses)
        self.assertNotEqual(form, Received([1], "y"))
        self.assertNotEqual(form, Received([2], "x"))
        self.assertFalse(form == ([1], "x"))

    def test_example(self):
        self.assertEqual(received_form(EIGHT, 3, ROWS),
                         Received((0, 2, 4), Losses(EIGHT, 3, [(1, 0, 0)], [3])))
        self.assertEqual(received_form(EIGHT, 3, ROWS).losses.rows, ((1, 0, 0),))

    def test_refused(self):
        for columns in NO_INTEGERS + (0, -1, 4, 10 ** 59):
            self.refuses(BadColumns, {}, received_form, EIGHT, columns, None)
        for rows in NO_SEQUENCES + ([ROWS[0]] * 17,):
            self.refuses(BadRows, {"index": -1}, received_form, EIGHT, 3, rows)
        for row in NO_SEQUENCES + ((), ROWS[0] + (0,), ROWS[0][1:], ROWS[0][1:] + (2,)):
            self.refuses(BadRows, {"index": 1}, received_form, EIGHT, 3, [ROWS[0], row, None])


class PartingTest(Case):
    def check(self, field, word, rows):
        columns, prime = len(word), field.prime
        sent, come = all_rows(field, columns, packets_of(field, word)), all_rows(field, columns, rows)
        common = dimension_of(prime, len(sent & come))
        missing, foreign = parting_of(field, word, rows)
        self.assertEqual((missing, foreign), (columns - common, dimension_of(prime, len(come)) - common))
        self.assertEqual(missing + foreign,
                         rows_distance(field, columns, packets_of(field, word), rows))
        form = received_form(field, columns, rows)
        rank = rest_rank(form.losses, slow_less(field, form.word, word))
        self.assertEqual((missing, foreign), (rank + len(form.losses.rows),
                                              rank + len(form.losses.things)))
        return missing, foreign

    def test_samples(self):
        for chance, field, columns in samples(7, 6):
            word, rows = near_packets(chance, field, columns)
            self.check(field, word, rows)
            self.check(field, random_word(chance, field, columns), rows)
            self.takes_lists(parting_of, field, word, rows)

    def test_all_small(self):
        found = set()
        for field, columns, basis in all_small():
            for word in all_words(field, columns):
                found.add(self.check(field, word, basis))
        self.assertGreaterEqual(found, {(2, 0), (0, 2), (2, 2), (0, 0), (1, 1)})

    def test_received(self):
        """The losses and the rest rank tell what is missing and what is foreign."""
        for chance, field, columns in samples(8):
            losses, other = random_losses(chance, field, columns), random_word(chance, field, columns)
            word = random_word(chance, field, columns)
            rank = rest_rank(losses, slow_less(field, other, word))
            self.assertEqual(parting_of(field, word, received_rows(losses, other)),
                             (rank + len(losses.rows), rank + len(losses.things)))

    def test_every_net(self):
        just = 0
        for chance, field, columns in samples(9, 12):
            net = random_net(chance, field, columns, columns, 5)
            word = random_word(chance, field, columns)
            missing, foreign = parting_of(field, word, run_net(net, packets_of(field, word)))
            lost, false = net_bound(net)
            self.assertGreaterEqual(false, foreign)
            self.assertGreaterEqual(lost + false, missing)
            just += false == foreign and lost + false == missing
        self.assertGreater(just, 10)

    def test_example(self):
        self.assertEqual(parting_of(EIGHT, (1, 2, 4), ROWS), (1, 1))
        self.assertEqual(parting_of(EIGHT, [1, 2, 4], []), (3, 0))


class NetForTest(Case):
    def check(self, field, word, rows):
        """The net leads there by its own deeds, and its bound is the least that does."""
        columns, width = len(word), len(word) + field.degree
        net = net_for(field, word, rows)
        self.assertIs(type(net), Net)
        self.assertEqual((net.field, net.columns, net.coming), (field, columns, columns))
        there = run_net(net, packets_of(field, word))
        self.assertEqual(echelon(field.prime, width, there), echelon(field.prime, width, rows))
        missing, foreign = parting_of(field, word, rows)
        self.assertEqual(net_bound(net), (max(missing - foreign, 0), foreign))
        self.assertIsNone(net_fault(field, word, rows, net))
        self.assertEqual(Net(field, columns, columns, net.deeds), net)
        self.assertTrue(made_of_tuples(net.deeds))
        return missing, foreign

    def test_samples(self):
        found = set()
        for chance, field, columns in samples(10, 8):
            word, rows = near_packets(chance, field, columns, 6)
            found.add(self.check(field, word, rows))
            self.check(field, random_word(chance, field, columns), rows)
            self.takes_lists(net_for, field, word, rows)
        self.assertTrue(any(missing > foreign > 0 for missing, foreign in found))
        self.assertTrue(any(foreign > missing > 0 for missing, foreign in found))

    def test_all_small(self):
        for field, columns, basis in all_small():
            for word in all_words(field, columns):
                self.check(field, word, basis)

    def test_nothing_arrives_and_all_arrives(self):
        for chance, field, columns in samples(11, 1):
            word, width = random_word(chance, field, columns), columns + field.degree
            unit = [[int(place == at) for at in range(width)] for place in range(width)]
            self.assertEqual(self.check(field, word, ()), (columns, 0))
            self.assertEqual(self.check(field, word, [[0] * width] * 16), (columns, 0))
            self.assertEqual(self.check(field, word, unit), (0, field.degree))
            self.assertEqual(self.check(field, word, packets_of(field, word)), (0, 0))
            self.assertEqual(self.check(field, word, unit[columns:]), (columns, field.degree))

    def test_refused(self):
        net = Net(EIGHT, 3, 3, ())
        for function, more in ((parting_of, ()), (net_for, ()), (net_fault, (net,))):
            for word in NO_SEQUENCES + ((), (0,) * 4):
                self.refuses(BadWord, {"index": -1}, function, EIGHT, word, None, *more)
            for thing in NO_INTEGERS + (-1, 8):
                self.refuses(BadWord, {"index": 1}, function, EIGHT, [7, thing, 9], None, *more)
            for rows in NO_SEQUENCES + ([ROWS[0]] * 17,):
                self.refuses(BadRows, {"index": -1}, function, EIGHT, (1, 2, 4), rows, *more)
            for row in NO_SEQUENCES + ((), ROWS[0] + (0,), ROWS[0][1:], ROWS[0][1:] + (2,)):
                self.refuses(BadRows, {"index": 1}, function, EIGHT, (1, 2, 4), (ROWS[0], row, 5),
                             *more)
            self.refuses(BadRows, {"index": 0}, function, EIGHT, (1, 2), ROWS, *more)


class FaultTest(Case):
    def fault(self, coming, deeds, field=EIGHT, columns=3, rows=ROWS, word=(1, 2, 4)):
        return net_fault(EIGHT, word, rows, Net(field, columns, coming, deeds))

    def test_none_for_unlike_nets(self):
        """The net of the example loses a dimension and is no best one; these are."""
        swap = ("mix", ((0, 1, 0), (1, 0, 0), (0, 0, 1)))
        for deeds in ((("false", (1, 0, 0, 0, 1, 0)), ("mix", ((1, 0, 0, 1), (0, 1, 0, 0), (0, 0, 1, 0)))),
                      (("false", (1, 0, 0, 0, 1, 0)), ("mix", ((1, 0, 0, 1), (0, 1, 0, 0), (0, 1, 1, 0)))),
                      (swap, swap, ("false", (1, 0, 0, 0, 1, 0)),
                       ("mix", ((1, 0, 0, 1), (0, 1, 0, 0), (0, 0, 1, 0)))),
                      (("copy", 0), ("false", (1, 1, 0, 0, 0, 0)),
                       ("mix", ((1, 0, 0, 0, 1), (0, 1, 0, 0, 0), (0, 0, 1, 0, 0))))):
            self.assertIsNone(self.fault(3, deeds))

    def test_coming(self):
        good = net_for(EIGHT, (1, 2, 4), ROWS)
        self.assertIsNone(net_fault(EIGHT, [1, 2, 4], [list(row) for row in ROWS], good))
        self.assertEqual(self.fault(2, ()), "coming")
        self.assertEqual(self.fault(4, ()), "coming")
        self.assertEqual(self.fault(3, (), columns=2), "coming")
        self.assertEqual(self.fault(2, (), columns=2), "coming")
        self.assertEqual(self.fault(3, (), field=NINE, columns=2), "coming")
        self.assertEqual(self.fault(3, (), field=SIXTEEN), "coming")
        self.assertEqual(net_fault(EIGHT, (1, 2), [row[1:] for row in ROWS[:1]], good), "coming")

    def test_space(self):
        self.assertEqual(self.fault(3, ()), "space")
        self.assertEqual(self.fault(3, [("drop", 0)]), "space")
        self.assertEqual(self.fault(3, [("drop", 0), ("false", (0, 0, 0, 1, 1, 1))]), "space")
        self.assertEqual(self.fault(3, [("false", (0, 0, 0, 1, 1, 0))]), "space")
        self.assertEqual(self.fault(3, [("false", ROWS[2])] * 3 + [("false", (1,) * 6)]), "space")

    def test_false(self):
        """All rows are false ones here, so these are too many, and too few are not lost."""
        deeds = [("mix", ())] + [("false", row) for row in ROWS]
        self.assertEqual(self.fault(3, deeds), "false")
        deeds = [("drop", 0), ("false", ROWS[2]), ("false", ROWS[1]), ("copy", 0)]
        self.assertEqual(self.fault(3, deeds), "false")

    def test_lost(self):
        self.assertEqual(self.fault(3, [("drop", 0), ("false", ROWS[2])]), "lost")
        self.assertEqual(self.fault(3, [("mix", ((0, 1, 0), (0, 0, 1))), ("false", ROWS[2])]), "lost")
        packets = packets_of(EIGHT, (1, 2, 4))
        self.assertEqual(net_fault(EIGHT, (1, 2, 4), packets[:2], Net(EIGHT, 3, 3, [("drop", 2)])),
                         None)
        self.assertEqual(net_fault(EIGHT, (1, 2, 4), packets, Net(EIGHT, 3, 3, ())), None)

    def test_false_ahead_of_lost(self):
        deeds = [("drop", 0), ("drop", 0), ("false", ROWS[2]), ("false", ROWS[0])]
        self.assertEqual(self.fault(3, deeds), "false")

    def test_random_nets(self):
        """Nets of a few deeds are judged as their runs and their bounds tell."""
        found = {}
        for chance, field, columns in samples(12, 40, (TWO, FOUR)):
            word, rows = near_packets(chance, field, columns, 2)
            net = random_net(chance, field, columns, columns, 3)
            if chance.randrange(2):
                rows = run_net(net, packets_of(field, word))
            missing, foreign = parting_of(field, word, rows)
            lost, false = net_bound(net)
            wanted = None
            if all_rows(field, columns, run_net(net, packets_of(field, word))) != all_rows(
                    field, columns, rows):
                wanted = "space"
            elif false != foreign:
                wanted = "false"
            elif lost != max(missing - foreign, 0):
                wanted = "lost"
            self.assertEqual(net_fault(field, word, rows, net), wanted)
            found[wanted] = found.get(wanted, 0) + 1
        self.assertEqual(set(found), {None, "space", "false", "lost"})

    def test_longer_ways(self):
        """A good net is as good ahead of and behind a net that changes nothing."""
        for chance, field, columns in samples(13):
            word, rows = near_packets(chance, field, columns)
            net, unit = net_for(field, word, rows), ("mix", tuple(
                tuple(int(row == place) for place in range(columns)) for row in range(columns)))
            ahead = net_behind(Net(field, columns, columns, [unit]), net)
            self.assertIsNone(net_fault(field, word, rows, ahead))


if __name__ == "__main__":
    unittest.main()
