"""Points [8.3] to [8.6]: nets and their deeds."""

import copy
import itertools
import unittest

from rankwords.deeds import Net, Taken, net_behind, net_bound, run_net, taken_through
from rankwords.errors import BadColumns, BadComing, BadDeed, BadRows, NotBehind
from rankwords.packets import packets_of, rows_distance
from tests.support import (Case, EIGHT, FIELDS, FOUR, NINE, NO_INTEGERS, NO_SEQUENCES, SIXTEEN,
                           TWENTY_SEVEN, as_lists, dimension_of, random_net, random_word, rng,
                           spanned_rows)

ROW = (0, 0, 0, 1, 1, 0)


def nets(seed, many=4, most=12):
    chance = rng(seed)
    for field in FIELDS:
        for columns in range(1, field.degree + 1):
            for _ in range(many):
                yield chance, random_net(chance, field, columns, chance.randrange(9), most)


def random_coming(chance, net):
    width = net.columns + net.field.degree
    return tuple(tuple(chance.randrange(net.field.prime) for _ in range(width))
                 for _ in range(net.coming))


def added(prime, one, other):
    return [(a + b) % prime for a, b in zip(one, other)]


def mixed(prime, width, digits, rows):
    """The sum of so many copies of each row."""
    total = [0] * width
    for digit, row in zip(digits, rows):
        for _ in range(digit):
            total = added(prime, total, row)
    return total


def slow_run(net, rows):
    """The rows at the end, each deed done upon one list."""
    width, standing = net.columns + net.field.degree, [list(row) for row in rows]
    for word, what in net.deeds:
        if word == "mix":
            standing = [mixed(net.field.prime, width, digits, standing) for digits in what]
        elif word == "drop":
            del standing[what]
        elif word == "copy":
            standing.append(list(standing[what]))
        else:
            standing.append(list(what))
    return tuple(map(tuple, standing))


def slow_dimension(prime, width, rows):
    return dimension_of(prime, len(spanned_rows(prime, width, rows)))


class NetTest(Case):
    def test_attributes(self):
        for chance, net in nets(1):
            deeds = as_lists(net.deeds)
            kept = copy.deepcopy(deeds)
            other = Net(net.field, net.columns, net.coming, deeds)
            self.assertEqual(deeds, kept)
            self.assertEqual(other, net)
            self.assertEqual(vars(other), vars(net))
            self.assertEqual((other.field, other.columns, other.coming, other.deeds),
                             (net.field, net.columns, net.coming, net.deeds))
            self.assertEqual(net.arriving, len(slow_run(net, random_coming(chance, net))))

    def test_tuples_throughout(self):
        net = Net(EIGHT, 3, 2, [["mix", [[1, 1], (0, 1)]], ["false", list(ROW)], ["copy", 0],
                                ("drop", 1)])
        self.assertEqual(net.deeds, (("mix", ((1, 1), (0, 1))), ("false", ROW), ("copy", 0),
                                     ("drop", 1)))
        self.assertEqual((net.columns, net.coming, net.arriving), (3, 2, 3))
        self.assertIs(net.field, EIGHT)

    def test_copies(self):
        table, row, place = [[1, 0]], list(ROW), ["drop", 0]
        deeds = [["mix", table], ["false", row], place]
        net = Net(EIGHT, 3, 2, deeds)
        table[0][0] = 0
        table.append([1, 1])
        row[0] = 1
        place[1] = 1
        deeds.append(["drop", 0])
        self.assertEqual(net, Net(EIGHT, 3, 2, (("mix", ((1, 0),)), ("false", ROW), ("drop", 0))))

    def test_equal(self):
        net = Net(FOUR, 1, 2, [("drop", 0)])
        self.assertEqual(net, Net(FOUR, 1, 2, [["drop", 0]]))
        for other in (Net(FOUR, 1, 2, [("drop", 1)]), Net(FOUR, 1, 3, [("drop", 0)]),
                      Net(FOUR, 2, 2, [("drop", 0)]), Net(EIGHT, 1, 2, [("drop", 0)]),
                      Net(FOUR, 1, 2, ()), None, 2):
            self.assertFalse(net == other)
            self.assertTrue(net != other)
        # These have the same deeds, and as many rows arrive.
        self.assertNotEqual(Net(FOUR, 1, 2, [("mix", ())]), Net(FOUR, 1, 3, [("mix", ())]))

    def test_edges(self):
        self.assertEqual(Net(FOUR, 2, 0, ()).arriving, 0)
        self.assertEqual(Net(FOUR, 2, 8, ()).arriving, 8)
        self.assertEqual(Net(FOUR, 2, 8, [("mix", ())]).arriving, 0)
        self.assertEqual(Net(FOUR, 2, 0, [("mix", [()] * 8)]).arriving, 8)
        self.assertEqual(Net(FOUR, 2, 0, [("mix", ()), ("false", (1, 0, 0, 0))]).arriving, 1)
        self.assertEqual(Net(FOUR, 2, 7, [("copy", 6)]).arriving, 8)
        self.assertEqual(Net(FOUR, 2, 7, [("copy", 6), ("drop", 7)] * 6).arriving, 7)
        self.assertEqual(len(Net(FOUR, 2, 8, [("drop", 7), ("copy", 0)] * 6).deeds), 12)

    def test_columns(self):
        for columns in NO_INTEGERS + (0, -1, 4, 10 ** 59):
            self.refuses(BadColumns, {}, Net, EIGHT, columns, 9, None)
            self.refuses(BadColumns, {}, Net, EIGHT, columns, 0, ())

    def test_coming(self):
        for coming in NO_INTEGERS + (-1, 9, 10 ** 59):
            self.refuses(BadComing, {}, Net, EIGHT, 3, coming, None)
            self.refuses(BadComing, {}, Net, EIGHT, 3, coming, ())

    def test_many_deeds(self):
        for deeds in NO_SEQUENCES + ([("mix", ())] * 13, [None] * 13):
            self.refuses(BadDeed, {"index": -1, "what": "many"}, Net, EIGHT, 3, 2, deeds)
        self.assertEqual(Net(EIGHT, 3, 2, (("mix", ((0, 1), (1, 0))),) * 12).arriving, 2)

    def refused_deed(self, what, deed, coming=2, index=0):
        """The deed is refused for this, also behind good ones and ahead of bad ones."""
        before = [("mix", [[int(row == place) for place in range(coming)]
                           for row in range(coming)])] * index
        self.refuses(BadDeed, {"index": index, "what": what}, Net, EIGHT, 3, coming,
                     before + [deed, None])
        listed = list(deed) if isinstance(deed, tuple) else deed
        self.refuses(BadDeed, {"index": index, "what": what}, Net, EIGHT, 3, coming,
                     tuple(before + [listed]))

    def test_no_deeds(self):
        for deed in NO_SEQUENCES + ((), ("drop",), ("drop", 0, 0), ("copy", 0, 0)):
            self.refused_deed("deed", deed, index=2)
        for word in NO_INTEGERS + NO_SEQUENCES + ("Drop", "drop ", "", "mixed", b"drop", ["drop"]):
            self.refused_deed("deed", (word, 0))
            self.refused_deed("deed", (word, ((1, 0),)), index=10)
        self.refused_deed("deed", ("room", 0), coming=8)

    def test_tables(self):
        for table in NO_SEQUENCES + (((0, 0),) * 9, [None] * 9):
            self.refused_deed("table", ("mix", table), index=1)
        for row in NO_SEQUENCES + ((), (1,), (1, 0, 0)):
            self.refused_deed("table", ("mix", [(1, 1), row]))
        for digit in NO_INTEGERS + (-1, 2, 10 ** 59):
            self.refused_deed("table", ("mix", ((1, digit),)))
        self.refused_deed("table", ("mix", ((0,),)), coming=0)
        self.refused_deed("table", ("mix", ((0,) * 8,) * 9), coming=8)
        Net(NINE, 2, 1, [("mix", [[2]] * 8)])

    def test_places(self):
        for word in ("drop", "copy"):
            for place in NO_INTEGERS + NO_SEQUENCES + (-1, 2, 10 ** 59):
                self.refused_deed("place", (word, place), index=1)
            self.refused_deed("place", (word, 0), coming=0)
            self.refused_deed("place", (word, 8), coming=8)

    def test_rows(self):
        for row in NO_SEQUENCES + ((), ROW[1:], ROW + (0,)):
            self.refused_deed("row", ("false", row), index=3)
            self.refused_deed("row", ("false", row), coming=8)
        for digit in NO_INTEGERS + (-1, 2, 10 ** 59):
            self.refused_deed("row", ("false", ROW[1:] + (digit,)))

    def test_room(self):
        self.refused_deed("room", ("copy", 7), coming=8)
        self.refused_deed("room", ("false", ROW), coming=8, index=1)
        self.refuses(BadDeed, {"index": 2, "what": "room"}, Net, EIGHT, 3, 6,
                     [("copy", 0), ("false", ROW), ("copy", 9 - 2), ("drop", 0)])
        self.refuses(BadDeed, {"index": 1, "what": "room"}, Net, EIGHT, 3, 0,
                     [("mix", [()] * 8), ("false", ROW)])

    def test_standing_rows_count(self):
        """What is told to a deed goes by the rows that stand at its time."""
        self.refuses(BadDeed, {"index": 1, "what": "place"}, Net, EIGHT, 3, 1,
                     [("drop", 0), ("drop", 0)])
        self.refuses(BadDeed, {"index": 1, "what": "table"}, Net, EIGHT, 3, 2,
                     [("copy", 0), ("mix", ((1, 1),))])
        self.refuses(BadDeed, {"index": 2, "what": "place"}, Net, EIGHT, 3, 2,
                     [("mix", ((1, 1),)), ("false", ROW), ("copy", 2)])
        self.assertEqual(Net(EIGHT, 3, 2, [("copy", 0), ("mix", ((1, 1, 1),))]).arriving, 1)


class RunTest(Case):
    def test_samples(self):
        for chance, net in nets(2):
            rows = random_coming(chance, net)
            self.assertEqual(run_net(net, rows), slow_run(net, rows))
            self.takes_lists(run_net, net, rows)

    def test_without_deeds(self):
        rows = [[0, 1, 2, 0], (1, 1, 1, 1), (0, 0, 0, 0)]
        self.assertEqual(run_net(Net(NINE, 2, 3, ()), rows), tuple(map(tuple, rows)))
        self.assertEqual(run_net(Net(NINE, 2, 0, ()), []), ())

    def test_each_deed(self):
        rows = ((0, 1, 2, 0), (1, 1, 1, 1))
        for deed, wanted in ((("mix", ((2, 1), (0, 0), (1, 2))),
                              ((1, 0, 2, 1), (0, 0, 0, 0), (2, 0, 1, 2))),
                             (("mix", ()), ()),
                             (("drop", 0), rows[1:]), (("drop", 1), rows[:1]),
                             (("copy", 0), rows + rows[:1]), (("copy", 1), rows + rows[1:]),
                             (("false", (0, 0, 2, 1)), rows + ((0, 0, 2, 1),))):
            self.assertEqual(run_net(Net(NINE, 2, 2, [deed]), rows), wanted)

    def test_rows_without_digits(self):
        net = Net(FOUR, 2, 2, [("mix", ()), ("mix", ((), ())), ("copy", 1)])
        self.assertEqual(run_net(net, [(1, 1, 1, 1)] * 2), ((0, 0, 0, 0),) * 3)
        self.assertEqual(taken_through(net), Taken(((0, 0),) * 3, ((0, 0, 0, 0),) * 3))
        self.assertEqual(net_bound(net), (2, 0))

    def test_refused(self):
        net = Net(EIGHT, 3, 2, [("drop", 0)])
        for rows in NO_SEQUENCES + ((), [ROW], [ROW] * 3, [None] * 3):
            self.refuses(BadRows, {"index": -1}, run_net, net, rows)
        for row in NO_SEQUENCES + ((), ROW[1:], ROW + (0,), ROW[1:] + (2,), (True,) + ROW[1:]):
            self.refuses(BadRows, {"index": 0}, run_net, net, [row, None])
            self.refuses(BadRows, {"index": 1}, run_net, net, (ROW, row))
        self.refuses(BadRows, {"index": -1}, run_net, Net(EIGHT, 3, 0, ()), [ROW])


class TakenTest(Case):
    def test_table_and_false_rows(self):
        for chance, net in nets(3):
            prime, width = net.field.prime, net.columns + net.field.degree
            taken = taken_through(net)
            self.assertEqual((len(taken.table), len(taken.false_rows)), (net.arriving,) * 2)
            self.assertTrue(all(len(row) == net.coming for row in taken.table))
            self.assertTrue(all(len(row) == width for row in taken.false_rows))
            for _ in range(3):
                rows = random_coming(chance, net)
                wanted = tuple(tuple(added(prime, mixed(prime, width, digits, rows), false))
                               for digits, false in zip(taken.table, taken.false_rows))
                self.assertEqual(run_net(net, rows), wanted)
            self.takes_lists(taken_through, net)

    def test_deeds_alone(self):
        """The false rows come of rows of zeros, the table of one row of 1 at a time."""
        for _, net in nets(4):
            width, taken = net.columns + net.field.degree, taken_through(net)
            zeros = [(0,) * width] * net.coming
            self.assertEqual(run_net(net, zeros), taken.false_rows)
            for place in range(net.coming):
                rows = zeros[:place] + [(1,) + (0,) * (width - 1)] + zeros[place + 1:]
                less = [(row[0] - false[0]) % net.field.prime
                        for row, false in zip(slow_run(net, rows), taken.false_rows)]
                self.assertEqual([row[place] for row in taken.table], less)

    def test_kept_as_given(self):
        table, rows = [[1]], ["x"]
        taken = Taken(table, rows)
        self.assertIs(taken.table, table)
        self.assertIs(taken.false_rows, rows)
        self.assertNotEqual(taken, Taken([[1]], ["y"]))
        self.assertNotEqual(taken, Taken([[2]], ["x"]))
        self.assertFalse(taken == ([[1]], ["x"]))

    def test_example(self):
        net = Net(EIGHT, 3, 3, [("drop", 0), ("false", ROW)])
        self.assertEqual(taken_through(net), Taken(((0, 1, 0), (0, 0, 1), (0, 0, 0)),
                                                   ((0,) * 6, (0,) * 6, ROW)))
        self.assertEqual(net_bound(net), (1, 1))


class BoundTest(Case):
    def test_ranks(self):
        for _, net in nets(5, 6):
            prime, taken = net.field.prime, taken_through(net)
            lost, false = net_bound(net)
            self.assertEqual(lost, net.coming - slow_dimension(prime, net.coming, taken.table))
            self.assertEqual(false, slow_dimension(prime, net.columns + net.field.degree,
                                                   taken.false_rows))
            self.assertLessEqual(false, sum(word == "false" for word, _ in net.deeds))
            self.assertGreaterEqual(lost, 0)

    def test_distance(self):
        chance, reached = rng(6), 0
        for field in FIELDS:
            for columns in range(1, field.degree + 1):
                for _ in range(12):
                    net = random_net(chance, field, columns, columns, 6)
                    lost, false = net_bound(net)
                    packets = packets_of(field, random_word(chance, field, columns))
                    far = rows_distance(field, columns, packets, run_net(net, packets))
                    self.assertLessEqual(far, 2 * false + lost)
                    reached += 0 < far == 2 * false + lost
        self.assertGreater(reached, 10)

    def test_few(self):
        self.assertEqual(net_bound(Net(FOUR, 2, 2, ())), (0, 0))
        self.assertEqual(net_bound(Net(FOUR, 2, 0, ())), (0, 0))
        self.assertEqual(net_bound(Net(FOUR, 2, 8, [("mix", ())])), (8, 0))
        self.assertEqual(net_bound(Net(FOUR, 2, 2, [("copy", 0), ("drop", 0)])), (0, 0))
        self.assertEqual(net_bound(Net(FOUR, 2, 2, [("false", (1, 0, 0, 1))] * 3)), (0, 1))
        self.assertEqual(net_bound(Net(FOUR, 2, 2, [("false", (0, 0, 0, 0))])), (0, 0))
        self.assertEqual(net_bound(Net(NINE, 2, 2, [("mix", ((1, 2), (2, 1)))])), (1, 0))


class BehindTest(Case):
    def test_samples(self):
        done = 0
        for chance, first in nets(7, 4, 8):
            second = random_net(chance, first.field, first.columns, first.arriving, 8)
            if len(first.deeds) + len(second.deeds) > 12:
                self.refuses(NotBehind, {}, net_behind, first, second)
                continue
            net = net_behind(first, second)
            self.assertEqual(net, Net(first.field, first.columns, first.coming,
                                      first.deeds + second.deeds))
            self.assertEqual(net.arriving, second.arriving)
            rows = random_coming(chance, net)
            self.assertEqual(run_net(net, rows), run_net(second, run_net(first, rows)))
            lost, false = net_bound(net)
            bounds = net_bound(first), net_bound(second)
            self.assertLessEqual(lost, bounds[0][0] + bounds[1][0])
            self.assertLessEqual(false, bounds[0][1] + bounds[1][1])
            done += 1
        self.assertGreater(done, 40)

    def test_small_nets(self):
        """Every couple of nets of one deed of a small choice."""
        deeds = [("mix", ((1, 1), (1, 1))), ("mix", ((0, 1), (1, 0))), ("mix", ()), ("drop", 0),
                 ("copy", 1), ("false", (1, 0, 1, 1)), ("false", (0, 0, 0, 0))]
        rows = ((1, 0, 1, 0), (0, 1, 1, 1))
        for one, other in itertools.product(deeds, repeat=2):
            first, second = Net(FOUR, 2, 2, [one]), Net(FOUR, 2, 2, [other])
            if first.arriving != 2:
                self.refuses(NotBehind, {}, net_behind, first, second)
            else:
                self.assertEqual(run_net(net_behind(first, second), rows),
                                 slow_run(second, slow_run(first, rows)))

    def test_refused(self):
        first = Net(EIGHT, 3, 2, [("drop", 0)])
        for second in (Net(TWENTY_SEVEN, 3, 1, ()), Net(EIGHT, 2, 1, ()), Net(EIGHT, 3, 2, ()),
                       Net(EIGHT, 3, 0, ()), Net(EIGHT, 3, 1, [("mix", ((1,),))] * 12)):
            self.refuses(NotBehind, {}, net_behind, first, second)
        second = Net(EIGHT, 3, 1, [("mix", ((1,),))] * 11)
        self.assertEqual(len(net_behind(first, second).deeds), 12)
        self.assertEqual(net_behind(Net(SIXTEEN, 4, 8, ()), Net(SIXTEEN, 4, 8, ())),
                         Net(SIXTEEN, 4, 8, ()))


if __name__ == "__main__":
    unittest.main()
