"""Points [8.11] to [8.13]: reading what was sent."""

import unittest

from rankwords.clashes import find_clash
from rankwords.deeds import Net, net_bound, run_net
from rankwords.errors import BadRows
from rankwords.losses import rest_rank
from rankwords.lostreads import read_lost
from rankwords.lots import Lot, distance_of
from rankwords.packets import packets_of, rows_distance
from rankwords.polylots import PolyLot
from rankwords.reading import Far, Read
from rankwords.received import net_fault, net_for, parting_of, received_form, received_rows
from rankwords.sent import nearest_sent, read_rows
from rankwords.spaces import all_spaces
from tests.support import (Case, EIGHT, FIELDS, FOUR, NINE, NO_SEQUENCES, SIXTEEN, all_polys,
                           lot_samples, members_of, poly_lots, random_losses, random_net,
                           random_packets, random_poly, random_word, rng, slow_less)

ROWS = ((0, 1, 0, 0, 1, 0), (0, 0, 1, 0, 0, 1), (0, 0, 0, 1, 1, 0))
LOT = PolyLot(EIGHT, (1, 2, 4), 1)


def slow_nearest(field, columns, members, rows):
    """The least distance of the sent spaces, and the members that have it."""
    table = {word: rows_distance(field, columns, packets_of(field, word), rows) for word in members}
    least = min(table.values())
    return least, tuple(sorted(word for word in table if table[word] == least))


def arrived(chance, polylot, most=2):
    """A poly, and some of its packets that are mixed with a few false rows."""
    field, columns = polylot.field, polylot.columns
    poly = random_poly(chance, field, polylot.terms)
    net = random_net(chance, field, columns, columns, most)
    return poly, net, run_net(net, packets_of(field, polylot.word_for(poly)))


def units(width, places):
    return [[int(place == at) for at in range(width)] for place in places]


class ReadTest(Case):
    def check(self, polylot, rows):
        """A Read just if a sent space is nearer than the distance; what is read is that member."""
        field, columns = polylot.field, polylot.columns
        read, form = read_rows(polylot, rows), received_form(field, columns, rows)
        self.assertEqual(read, read_lost(polylot, form.word, form.losses))
        least, members = slow_nearest(field, columns, members_of(polylot.as_closed()), rows)
        if least >= polylot.distance:
            self.assertEqual(read, Far(-1))
            return None
        self.assertEqual(len(members), 1)
        error = slow_less(field, form.word, members[0])
        self.assertEqual(read, Read(polylot.poly_for(members[0]), members[0], error,
                                    rest_rank(form.losses, error)))
        self.assertEqual(2 * read.rank + form.losses.many, least)
        return least

    def test_all_spaces(self):
        for polylot in (PolyLot(FOUR, (3, 1), 1), PolyLot(FOUR, (1, 2), 2), PolyLot(FOUR, (2,), 1),
                        PolyLot(EIGHT, (5,), 1)):
            width, found = polylot.columns + polylot.field.degree, set()
            for many in range(width + 1):
                for basis in all_spaces(2, width, many):
                    found.add(self.check(polylot, basis))
            self.assertEqual(found, {None} | set(range(polylot.distance)))

    def test_samples(self):
        chance, found = rng(1), {}
        for polylot in poly_lots(1, 6):
            if polylot.size <= 81:
                _, _, rows = arrived(chance, polylot, 4)
                least = self.check(polylot, rows)
                found[least] = found.get(least, 0) + 1
                self.check(polylot, random_packets(chance, polylot.field, polylot.columns, 5))
                self.takes_lists(read_rows, polylot, rows)
        self.assertGreater(found[None], 5)
        self.assertGreater(found[1], 5)
        self.assertGreater(found[2], 5)

    def test_every_net_below_the_distance(self):
        """What goes through a net of 2 false + lost below the distance is read."""
        chance, done = rng(2), {}
        for polylot in poly_lots(2, 25):
            poly, net, rows = arrived(chance, polylot, 5)
            lost, false = net_bound(net)
            if 2 * false + lost < polylot.distance:
                read = read_rows(polylot, rows)
                self.assertEqual((read.poly, read.word), (poly, polylot.word_for(poly)))
                done[lost, false] = done.get((lost, false), 0) + 1
        self.assertGreater(done[0, 1], 3)
        self.assertGreater(done[1, 0], 3)
        self.assertGreater(done[1, 1], 3)

    def test_all_sent(self):
        """Every member of a small lot, through no net, a net that drops, and one that forges."""
        for polylot in (PolyLot(EIGHT, (1, 2, 4), 1), PolyLot(NINE, (4, 2), 1), PolyLot(FOUR, (2, 3), 2)):
            columns, field = polylot.columns, polylot.field
            row = (0,) * (columns + field.degree - 1) + (1,)
            for poly in all_polys(field, polylot.terms):
                packets = packets_of(field, polylot.word_for(poly))
                for deeds, bound in (((), 0), ([("drop", 0)], 1), ([("false", row)], 2),
                                     ([("copy", 0), ("mix", units(columns + 1, range(columns)))], 0)):
                    net = Net(field, columns, columns, deeds)
                    self.assertEqual(2 * net_bound(net)[1] + net_bound(net)[0], bound)
                    read = read_rows(polylot, run_net(net, packets))
                    if bound < polylot.distance:
                        self.assertEqual(read.poly, poly)

    def test_nothing_arrives(self):
        for polylot in poly_lots(3):
            self.assertEqual(read_rows(polylot, ()), Far(-1))
            width = polylot.columns + polylot.field.degree
            self.assertEqual(read_rows(polylot, [[0] * width] * 16), Far(-1))
            self.assertEqual(read_rows(polylot, units(width, range(width))), Far(-1))

    def test_example(self):
        self.assertEqual(read_rows(LOT, ROWS), Read((1,), (1, 2, 4), (1, 0, 0), 0))
        net = Net(EIGHT, 3, 3, [("drop", 0), ("false", (0, 0, 0, 1, 1, 0))])
        self.assertEqual(run_net(net, packets_of(EIGHT, (1, 2, 4))), ROWS)
        self.assertEqual(rows_distance(EIGHT, 3, packets_of(EIGHT, (1, 2, 4)), ROWS), 2)

    def test_refused(self):
        lot = Lot(EIGHT, 3, [(1, 2, 4), (0, 0, 0)])
        for function, first in ((read_rows, LOT), (nearest_sent, lot)):
            for rows in NO_SEQUENCES + ([ROWS[0]] * 17,):
                self.refuses(BadRows, {"index": -1}, function, first, rows)
            for row in NO_SEQUENCES + ((), ROWS[0] + (0,), ROWS[0][1:], ROWS[0][1:] + (2,),
                                       ROWS[0][1:] + (True,)):
                self.refuses(BadRows, {"index": 1}, function, first, [ROWS[0], row, None])


class ClashTest(Case):
    def test_no_greater_bound(self):
        """At the distance the space of a clash is as far from the sent spaces of both members."""
        led = 0
        for polylot in poly_lots(4):
            field, columns, distance = polylot.field, polylot.columns, polylot.distance
            for errors in range(distance // 2 + 1):
                for things in range(distance - 2 * errors + 1):
                    rows = distance - 2 * errors - things
                    clash = find_clash(polylot, rows, things, errors)
                    space = received_rows(clash.losses, clash.word)
                    self.assertEqual(read_rows(polylot, space), Far(-1))
                    for member in (clash.one, clash.other):
                        far = rows_distance(field, columns, packets_of(field, member), space)
                        self.assertEqual(far, distance)
                        self.assertEqual(parting_of(field, member, space),
                                         (errors + rows, errors + things))
                        if things <= rows:
                            net = net_for(field, member, space)
                            self.assertEqual(net_bound(net), (rows - things, errors + things))
                            self.assertIsNone(net_fault(field, member, space, net))
                            self.assertEqual(read_rows(polylot, run_net(
                                net, packets_of(field, member))), Far(-1))
                            led += 1
        self.assertGreater(led, 100)

    def test_just_below(self):
        """Both members of a clash are read while fewer packets are lost than the distance."""
        polylot = PolyLot(SIXTEEN, (1, 2, 4, 8), 2)
        for rows, things, errors in ((3, 0, 0), (1, 0, 1), (2, 1, 0), (0, 1, 1)):
            clash = find_clash(polylot, rows, things, errors)
            for member in (clash.one, clash.other):
                space = packets_of(SIXTEEN, member)
                self.assertEqual(read_rows(polylot, space).word, member)
                self.assertEqual(read_rows(polylot, space[:2]).word, member)
                self.assertEqual(read_rows(polylot, space[:1]), Far(-1))


class NearestTest(Case):
    def test_samples(self):
        chance, near = rng(5), 0
        for lot in lot_samples(5, 6, 6):
            field, columns = lot.field, lot.columns
            for _ in range(3):
                losses, word = random_losses(chance, field, columns), random_word(chance, field, columns)
                rows = chance.choice((random_packets(chance, field, columns, 5),
                                      received_rows(losses, chance.choice(lot.members)),
                                      received_rows(losses, word)))
                least, members = nearest_sent(lot, rows)
                self.assertEqual((least, members), slow_nearest(field, columns, lot.members, rows))
                if least < distance_of(lot).distance:
                    self.assertEqual(len(members), 1)
                    near += least > 0
                self.takes_lists(nearest_sent, lot, rows)
        self.assertGreater(near, 10)

    def test_all_spaces(self):
        lot = Lot(FOUR, 2, [(0, 0), (1, 2), (3, 3), (0, 1)])
        for many in range(5):
            for basis in all_spaces(2, 4, many):
                self.assertEqual(nearest_sent(lot, basis), slow_nearest(FOUR, 2, lot.members, basis))

    def test_one_member(self):
        lot = Lot(NINE, 2, [[4, 5]])
        self.assertEqual(nearest_sent(lot, packets_of(NINE, (4, 5))), (0, ((4, 5),)))
        self.assertEqual(nearest_sent(lot, ()), (2, ((4, 5),)))

    def test_poly_lots(self):
        """What is read of a small poly lot is the nearest one of its members."""
        chance = rng(6)
        for polylot in poly_lots(6, 2):
            if polylot.size <= 256:
                _, _, rows = arrived(chance, polylot)
                least, members = nearest_sent(polylot.as_lot(), rows)
                read = read_rows(polylot, rows)
                if least < polylot.distance:
                    self.assertEqual((read.word,), members)
                else:
                    self.assertEqual(read, Far(-1))

    def test_example(self):
        self.assertEqual(nearest_sent(LOT.as_lot(), ROWS), (2, ((1, 2, 4),)))

    def test_fields(self):
        for field in FIELDS:
            lot = Lot(field, 1, [[thing] for thing in range(field.size)])
            zeros = (0,) * field.degree
            self.assertEqual(nearest_sent(lot, [(1,) + zeros]), (0, ((0,),)))
            self.assertEqual(nearest_sent(lot, [])[1], lot.members)


if __name__ == "__main__":
    unittest.main()
