"""Points [0.1] to [0.4] and [0.7], for what all modules have in common."""

import copy
import unittest

from rankwords import (backs, bench, bounds, clashes, closed, counts, covers, datas, deeds,
                       divisions, edits, errors, evens, fields, fieldtext, formulas, goals, joined,
                       keys, lanes, likes, losses, lostreads, lots, lottext, maps, mends, middles,
                       nearest, packets, polylots, polys, reading, received, restcounts, sent,
                       spacepolys, spaces, stores, tables, within)
from tests.support import Case, EIGHT, FOUR, NINE, TWENTY_SEVEN

BIG = 10 ** 60 - 1


def wrong_calls():
    """An error, its attributes, and a call in which every argument from some place on is wrong."""
    bad_rows = [[1, 0], [2, 0]]
    yield errors.BadThing, {"index": 3}, fields.check_thing, FOUR, 4, 3
    yield errors.BadThing, {"index": 1}, fields.check_things, FOUR, [0, -1, 9], 3
    yield errors.BadColumns, {}, fields.check_columns, FOUR, 3
    yield errors.BadRow, {"index": 1}, spaces.echelon, 2, 2, bad_rows
    yield errors.BadRow, {"index": 1}, spaces.row_rank, 2, 2, bad_rows
    yield errors.BadRow, {"index": 1}, spaces.contrary, 2, 2, bad_rows
    yield errors.BadRow, {"index": 1}, spaces.sum_spaces, 2, 2, bad_rows, [[3, 3]]
    yield errors.BadRow, {"index": 1}, spaces.meet_spaces, 2, 2, bad_rows, [[3, 3]]
    yield errors.BadRow, {"index": 1}, spaces.holds_row, 2, 2, bad_rows, [3, 3]
    yield errors.BadRow, {"index": 1}, spaces.rows_of_space, 2, 2, bad_rows
    yield errors.BadThing, {"index": 2}, spaces.things_space, FOUR, [1, 1, 4, 5]
    yield errors.BadThing, {"index": 2}, spaces.space_things, FOUR, [1, 1, 4, 5]
    yield errors.BadThing, {"index": 2}, spaces.holds_thing, FOUR, [1, 1, 4, 5], 7
    yield errors.BadWord, {"index": 1}, tables.check_word, FOUR, [3, 4]
    yield errors.BadTable, {}, tables.word_of_table, FOUR, [[1], [1, 0]]
    yield errors.Unlike, {}, tables.word_sum, FOUR, [1], [1, 2]
    yield errors.Unlike, {}, tables.word_less, FOUR, [1], [1, 2]
    yield errors.Unlike, {}, tables.rank_distance, FOUR, [1], [1, 2]
    yield errors.BadPoly, {"index": 2}, polys.check_poly, FOUR, [1, 2, 0]
    yield errors.BadPoly, {"index": 2}, polys.value_at, FOUR, [1, 2, 0], 9
    yield errors.BadPoly, {"index": 2}, polys.values_at, FOUR, [1, 2, 0], [9]
    yield errors.BadPoly, {"index": 2}, polys.zeros_of, FOUR, [1, 2, 0]
    yield errors.BadPoly, {"index": 2}, polys.reduced_poly, FOUR, [1, 2, 0]
    for function in (polys.poly_sum, polys.poly_less, polys.put_into, divisions.divided_within,
                     divisions.divided_about, divisions.common_about, divisions.common_parts,
                     divisions.least_about):
        yield errors.BadPoly, {"index": 2}, function, FOUR, [1, 2, 0], [0]
        yield errors.BadPoly, {"index": 0}, function, FOUR, [1, 2, 1], [0]
    yield from wrong_calls_with_lots()


def wrong_calls_with_lots():
    lot = lots.Lot(FOUR, 2, [[0, 0], [1, 2], [2, 3]])
    poly_lot = polylots.PolyLot(FOUR, [1, 2], 1)
    yield errors.BadThing, {"index": 1}, spacepolys.poly_of_space, FOUR, [1, 4, 5]
    yield errors.BadPoints, {"index": 1}, spacepolys.check_points, FOUR, [0, 4]
    yield errors.BadPoints, {"index": 1}, spacepolys.interpolated, FOUR, [0, 4], [9]
    yield errors.NotApart, {"index": 1}, spacepolys.interpolated, FOUR, [3, 3], [9]
    yield errors.BadWord, {"index": -1}, spacepolys.interpolated, FOUR, [3, 2], [9]
    yield errors.BadPoly, {"index": 2}, maps.map_table, FOUR, [1, 2, 0]
    yield errors.BadTable, {}, maps.poly_of_map, FOUR, [[1, 0]]
    yield errors.BadPoly, {"index": 2}, maps.undone_poly, FOUR, [1, 2, 0]
    yield errors.NotInvertible, {}, maps.undone_poly, FOUR, [1, 1]
    yield errors.BadLot, {"what": "columns"}, lots.Lot, FOUR, 3, []
    yield errors.BadLot, {"what": "many"}, lots.Lot, FOUR, 2, [[9]] * 257
    yield errors.BadLot, {"what": "word"}, lots.Lot, FOUR, 2, [[1, 2], [9, 9]]
    yield errors.BadWord, {"index": 0}, lot.holds, [9, 9]
    yield errors.BadDistance, {}, bounds.bound_of, FOUR, 2, 4
    yield errors.BadDistance, {}, bounds.crowded_couple, lot, 4
    yield errors.NotMet, {}, bounds.member_with_head, lot, [9, 9]
    yield errors.BadClosed, {"what": "columns"}, closed.ClosedLot, FOUR, 3, None
    yield errors.BadClosed, {"what": "many"}, closed.ClosedLot, FOUR, 2, [[9]] * 17
    yield errors.BadClosed, {"what": "word"}, closed.ClosedLot, FOUR, 2, [[1, 2], [9, 9]]
    yield errors.BadPoints, {"index": 0}, polylots.PolyLot, FOUR, [9, 9], 3
    yield errors.NotApart, {"index": 0}, polylots.PolyLot, FOUR, [0, 0], 3
    yield errors.BadTerms, {}, polylots.PolyLot, FOUR, [1, 2], 3
    yield errors.BadPoly, {"index": -1}, poly_lot.word_for, [9, 9]
    yield errors.BadWord, {"index": 0}, poly_lot.poly_for, [9, 9]
    yield errors.NotMember, {}, poly_lot.poly_for, [1, 1]
    yield errors.BadSizes, {"what": "prime"}, formulas.words_of_rank, 5, 13, 13, 14
    yield errors.BadSizes, {"what": "degree"}, formulas.met_counts, 3, 13, 14, 15
    yield from wrong_calls_with_counts()
    yield from wrong_reads()
    yield from wrong_calls_with_losses()
    yield from wrong_calls_with_stores()
    yield from wrong_calls_with_nets()
    yield from wrong_calls_with_joined_lots()
    yield from wrong_calls_with_edits()
    yield from wrong_calls_with_benches()
    yield from wrong_texts()


def wrong_calls_with_counts():
    good = [1, 0, 0, 7]
    lot = closed.ClosedLot(EIGHT, 3, [[1, 2, 4]])
    for function in (restcounts.rest_counts, restcounts.counts_fault, restcounts.completed_counts):
        yield errors.BadSizes, {"what": "columns"}, function, 2, 3, 13, 0, [9]
        yield errors.BadSizes, {"what": "size"}, function, 2, 3, 3, 513, [9]
    for function in (restcounts.rest_counts, restcounts.completed_counts):
        yield errors.BadCounts, {"what": "first"}, function, 2, 3, 3, 8, [2, 2, 2, 2]
    yield errors.BadCounts, {"what": "row"}, restcounts.rest_counts, 2, 3, 3, 8, [9]
    yield errors.NoLot, {"rank": 2}, restcounts.rest_counts, 2, 2, 2, 8, [1, 7, 0]
    yield errors.NoLot, {"rank": 1}, restcounts.completed_counts, 2, 3, 3, 8, [1]
    yield errors.BadCounts, {"what": "first"}, restcounts.turned_counts, 2, 3, 3, [0, 1, 0, 0]
    sides = restcounts.identity_sides
    yield errors.BadSizes, {"what": "size"}, sides, 2, 3, 3, 9, [9], [9], 9
    yield errors.BadCounts, {"what": "row"}, sides, 2, 3, 3, 8, [9], [9], 9
    yield errors.BadCounts, {"what": "others"}, sides, 2, 3, 3, 8, good, [9], 9
    yield errors.BadSizes, {"what": "part"}, sides, 2, 3, 3, 8, good, good, 9
    yield errors.BadRow, {"index": 1}, within.members_within, lot, [[1, 0, 0], [2, 0, 0], [3]]
    yield errors.BadRow, {"index": 1}, within.members_bearing, lot, [[1, 0, 0], [2, 0, 0], [3]]
    yield errors.BadThing, {"index": 1}, within.things_within, lot, [1, 8, 9]
    yield errors.BadSizes, {"what": "part"}, evens.uneven_space, lot.as_lot(), 4


def wrong_reads():
    lot = polylots.PolyLot(EIGHT, [1, 2, 4], 1)
    great = polylots.PolyLot(EIGHT, [1, 2, 4], 3)
    yield errors.BadRow, {"index": 1}, keys.reduced_things, EIGHT, 2, [[1, 7], [1, 8], [9, 9]]
    yield errors.BadRow, {"index": 1}, keys.solutions_basis, EIGHT, 2, [[1, 7], [1, 8], [9, 9]]
    for function in (keys.key_rows, keys.key_basis, keys.key_couple):
        yield errors.BadWord, {"index": 1}, function, lot, [1, 8, 9], 9
        yield errors.BadErrors, {}, function, lot, [1, 2, 3], 3
    yield errors.BadWord, {"index": 1}, reading.read_word, lot, [1, 8, 9]
    yield errors.BadWord, {"index": 1}, reading.read_fault, lot, [1, 8, 9], reading.Far(0)
    for function in (nearest.nearest_members, nearest.members_around):
        more = [9] if function == nearest.members_around else []
        yield errors.TooMany, {"size": 512}, function, great, [8, 9], *more
        yield errors.BadWord, {"index": 1}, function, lot, [1, 8, 9], *more
    yield errors.BadErrors, {}, nearest.members_around, lot, [1, 2, 3], 4
    yield errors.TooMany, {"size": 512}, nearest.reach_row, great


def wrong_calls_with_losses():
    lot = polylots.PolyLot(EIGHT, [1, 2, 4], 1)
    great = polylots.PolyLot(EIGHT, [1, 2, 4], 3)
    lost, other = losses.Losses(EIGHT, 3, [[1, 0, 0]], [3]), losses.Losses(FOUR, 1, [], [])
    yield errors.BadWord, {"index": 1}, middles.rank_parts, EIGHT, [1, 8, 9]
    for function in (middles.way_between, middles.middle_word):
        yield errors.BadWord, {"index": 1}, function, EIGHT, [1, 8, 9], [9]
        yield errors.BadWord, {"index": -1}, function, EIGHT, [1, 2, 3], [9]
    yield errors.BadWord, {"index": -1}, middles.middle_fault, EIGHT, [1, 2], [9], [9, 9]
    yield errors.BadWord, {"index": 0}, middles.middle_fault, EIGHT, [1, 2], [1, 2], [9, 9]
    yield errors.BadWord, {"index": -1}, middles.all_between, EIGHT, [1, 2], [9], 9
    yield errors.BadErrors, {}, middles.all_between, EIGHT, [1, 2], [1, 3], 2
    yield errors.BadErrors, {}, middles.between_count, 2, 13, 14
    yield errors.BadLoss, {"what": "columns"}, losses.Losses, EIGHT, 4, [[2]], [9]
    yield errors.BadLoss, {"what": "rows"}, losses.Losses, EIGHT, 3, [[1, 1, 1], [2]], [9]
    yield errors.BadLoss, {"what": "things"}, losses.Losses, EIGHT, 3, [[1, 1, 1]], [7, 8]
    for function in (losses.rest_rank, losses.parts_of):
        yield errors.BadWord, {"index": 1}, function, lost, [1, 8, 9]
    yield errors.BadWord, {"index": 1}, losses.parts_fault, lost, [1, 8, 9], [[9]]
    yield errors.Unlike, {}, losses.joined_losses, lost, other
    yield errors.BadWord, {"index": 1}, lostreads.read_lost, lot, [1, 8, 9], other
    yield errors.Unlike, {}, lostreads.read_lost, lot, [1, 2, 3], other
    yield errors.TooMany, {"size": 512}, lostreads.nearest_lost, great, [1, 8, 9], other
    yield errors.BadWord, {"index": 1}, lostreads.nearest_lost, lot, [1, 8, 9], other
    yield errors.Unlike, {}, lostreads.nearest_lost, lot, [1, 2, 3], other
    yield errors.Unlike, {}, lostreads.hidden_couple, great, other
    yield errors.NoClash, {}, clashes.find_clash, lot, 1, 1, 1
    yield errors.NoClash, {}, clashes.clash_fault, lot, 1, 1, 1, clashes.Clash([9], [9], [9], [9])


def wrong_calls_with_stores():
    store = stores.Store(polylots.PolyLot(EIGHT, [1, 2, 4], 1))
    cover = covers.Cover((9,), (9,), ((9, 9),))
    for function in (covers.check_cells, covers.lane_cover, covers.worst_change):
        yield errors.BadCells, {"index": 1}, function, EIGHT, 2, [[0, 0], [0, 2], [9, 9]]
    yield errors.BadCells, {"index": 1}, covers.cover_fault, EIGHT, 2, [[0, 0], [0, 2]], cover
    yield errors.BadLane, {"what": "rows"}, lanes.lane_losses, EIGHT, 2, [0, 3], [9]
    yield errors.BadLane, {"what": "places"}, lanes.lane_losses, EIGHT, 2, [0, 2], [0, 2]
    yield errors.BadPoly, {"index": -1}, store.write, [9, 9]
    yield errors.BadCells, {"index": 1}, store.spoil, [[0, 0, 1], [0, 0, 2], [9]]
    for function in (store.spoilt_lanes, store.read_known, store.mend):
        yield errors.BadLane, {"what": "rows"}, function, [0, 3], [9]
        yield errors.BadLane, {"what": "places"}, function, [0, 2], [0, 3]
    yield errors.TooSpoilt, {"lanes": 0}, store.mend, [0, 1, 2], [0]


def wrong_calls_with_nets():
    lot = polylots.PolyLot(EIGHT, [1, 2], 1)
    good, bad = [0, 0, 1, 0, 0], [0, 0, 1, 0, 2]
    net = deeds.Net(EIGHT, 2, 2, [["drop", 0]])
    yield errors.BadColumns, {}, packets.check_rows, EIGHT, 4, [bad]
    yield errors.BadRows, {"index": 1}, packets.check_rows, EIGHT, 2, [good, bad, [9]]
    yield errors.BadWord, {"index": 1}, packets.packets_of, EIGHT, [1, 8, 9]
    yield errors.BadColumns, {}, packets.rows_distance, EIGHT, 4, [bad], [bad]
    yield errors.BadRows, {"index": 1}, packets.rows_distance, EIGHT, 2, [good, bad], [bad]
    yield errors.BadColumns, {}, deeds.Net, EIGHT, 4, 9, [[9]]
    yield errors.BadComing, {}, deeds.Net, EIGHT, 2, 9, [[9]]
    yield errors.BadDeed, {"index": 1, "what": "row"}, deeds.Net, EIGHT, 2, 1, [["drop", 0],
                                                                               ["false", bad], [9]]
    yield errors.BadRows, {"index": -1}, deeds.run_net, net, [bad]
    yield errors.BadRows, {"index": 1}, deeds.run_net, net, [good, bad]
    yield errors.NotBehind, {}, deeds.net_behind, net, net
    yield errors.BadWord, {"index": 1}, received.received_rows, losses.Losses(EIGHT, 2, [], []), [1, 8]
    yield errors.BadColumns, {}, received.received_form, EIGHT, 4, [bad]
    yield errors.BadRows, {"index": 1}, received.received_form, EIGHT, 2, [good, bad]
    for function in (received.parting_of, received.net_for, received.net_fault):
        more = [net] if function == received.net_fault else []
        yield errors.BadWord, {"index": 1}, function, EIGHT, [1, 8], [bad], *more
        yield errors.BadRows, {"index": 1}, function, EIGHT, [1, 2], [good, bad], *more
    yield errors.BadRows, {"index": 1}, sent.read_rows, lot, [good, bad, [9]]
    yield errors.BadRows, {"index": 1}, sent.nearest_sent, lot.as_lot(), [good, bad, [9]]


def wrong_calls_with_joined_lots():
    lot, other = closed.ClosedLot(EIGHT, 2, [[1, 2]]), closed.ClosedLot(FOUR, 2, [])
    poly_lot = polylots.PolyLot(EIGHT, [1, 2], 1)
    yield errors.Unlike, {}, joined.side_by_side, lot, other
    yield errors.NoColumn, {}, joined.side_by_side, lot, lot
    for function, first in ((joined.struck, lot), (joined.shortened, lot),
                            (likes.struck_points, poly_lot), (likes.shortened_points, poly_lot)):
        yield errors.NoColumn, {}, function, first, 2
    for function, first in ((joined.mixed, lot), (likes.mixed_points, poly_lot)):
        yield errors.BadTable, {}, function, first, [[0, 0], [0, 2]]
        yield errors.NotInvertible, {}, function, first, [[1, 1], [1, 1]]
    yield errors.BadTerms, {}, likes.shortened_points, poly_lot, 1
    yield errors.BadThing, {"index": 0}, likes.scaled_points, poly_lot, 8
    yield errors.ZeroThing, {}, likes.scaled_points, poly_lot, 0
    yield errors.BadNumber, {}, backs.meet_of_steps, lot, 9
    yield errors.NotClosedByThings, {}, backs.points_of, lot


def wrong_calls_with_edits():
    lot = polylots.PolyLot(EIGHT, [1, 2], 1)
    step, bad_edits, bad_goals = ["step", 1], [["step", 1], ["step", 3], 9], [["size", 1], ["size", -1]]
    yield errors.BadPoly, {"index": -1}, datas.number_of, lot, [9, 9]
    yield errors.BadPoly, {"index": 0}, datas.number_of, lot, [0]
    yield errors.BadNumber, {}, datas.poly_of_number, lot, 8
    yield errors.BadHead, {}, datas.poly_with_head, lot, [8]
    yield errors.BadEdit, {"index": 1, "what": "form"}, edits.check_edits, EIGHT, bad_edits
    yield errors.BadEdit, {"index": 1, "what": "form"}, edits.lot_after, lot, bad_edits
    yield errors.BadEdit, {"index": 1, "what": "now"}, edits.lot_after, lot, [step, ["terms", 3]]
    yield errors.BadGoal, {"index": 1}, goals.check_goals, EIGHT, bad_goals
    yield errors.BadGoal, {"index": 1}, goals.first_unmet, lot, bad_goals
    for function in (mends.find_mends, mends.find_spoilers):
        yield errors.BadEdit, {"index": 1, "what": "form"}, function, lot, bad_edits * 4, bad_goals
        yield errors.TooMany, {"size": 7}, function, lot, [step] * 7, bad_goals
        yield errors.BadGoal, {"index": 1}, function, lot, [step] * 6, bad_goals


def wrong_calls_with_benches():
    place = bench.Bench(polylots.PolyLot(EIGHT, [1, 2], 1))
    bad_goals = [["size", 1], ["size", -1]]
    yield errors.NothingDone, {}, place.take_back
    yield errors.BadPoly, {"index": -1}, place.put_in, [9, 9]
    yield errors.BadWord, {"index": 1}, place.read_in, [7, 8]
    yield errors.BadEdit, {"index": 0, "what": "form"}, place.make, ["terms", 4]
    yield errors.BadEdit, {"index": 0, "what": "now"}, place.make, ["terms", 3]
    yield errors.BadEdit, {"index": 0, "what": "form"}, bench.try_edits, place, [["terms", 4]], bad_goals
    yield errors.BadGoal, {"index": 1}, bench.try_edits, place, [["terms", 3]], bad_goals
    yield errors.BadEdit, {"index": 0, "what": "now"}, bench.try_edits, place, [["terms", 3]]


def wrong_texts():
    yield errors.BadText, {"line": 0}, fieldtext.read_field, "9: 1 1 "
    yield errors.BadField, {"what": "prime"}, fieldtext.read_field, "9: 1 1"
    yield errors.BadWord, {"index": 1}, fieldtext.word_text, EIGHT, [1, 8, 9]
    yield errors.BadText, {"line": 0}, fieldtext.read_word_text, EIGHT, "1 8 09"
    yield errors.BadWord, {"index": 1}, fieldtext.read_word_text, EIGHT, "1 8 9"
    yield errors.BadField, {"what": "prime"}, lottext.read_lot, "9: 1 1\n09"
    yield errors.BadText, {"line": 2}, lottext.read_lot, "2: 1 1\n9 9\n09\n\n"
    yield errors.BadLot, {"what": "columns"}, lottext.read_lot, "2: 1 1\n9 9\n9"


def told_of(args):
    """The arguments, those without an == by what they keep."""
    return [vars(arg) if isinstance(arg, bench.Bench) else arg for arg in args]


class RefusalsTest(Case):
    def test_first_wrong_argument_and_nothing_changed(self):
        for error, told, function, *args in wrong_calls():
            kept = copy.deepcopy(args)
            self.refuses(error, told, function, *args)
            self.assertEqual(told_of(args), told_of(kept))

    def test_bools_are_no_integers(self):
        for value in (True, False):
            self.refuses(errors.BadField, {"what": "prime"}, fields.Field, value, (1, 1))
            self.refuses(errors.BadField, {"what": "modulus"}, fields.Field, 2, (value, 1))
            self.refuses(errors.BadThing, {"index": 0}, fields.check_thing, FOUR, value)
            self.refuses(errors.BadColumns, {}, fields.check_columns, FOUR, value)
            self.refuses(errors.BadRow, {"index": 0}, spaces.echelon, 2, 1, [(value,)])
            self.refuses(errors.BadWord, {"index": 0}, tables.check_word, FOUR, (value,))
            self.refuses(errors.BadTable, {}, tables.word_of_table, FOUR, ((value,), (1,)))
            self.refuses(errors.BadPoly, {"index": 0}, polys.check_poly, FOUR, (value, 1))

    def test_integers_of_60_figures(self):
        for number in (BIG, -BIG):
            self.refuses(errors.BadField, {"what": "prime"}, fields.Field, number, (1, 1))
            self.refuses(errors.BadField, {"what": "modulus"}, fields.Field, 3, (number, 1))
            self.refuses(errors.BadThing, {"index": 0}, fields.check_thing, FOUR, number)
            self.refuses(errors.BadColumns, {}, fields.check_columns, FOUR, number)
            self.refuses(errors.BadRow, {"index": 0}, spaces.echelon, 3, 1, [(number,)])
            self.refuses(errors.BadWord, {"index": 0}, tables.check_word, NINE, (number,))
            self.refuses(errors.BadPoly, {"index": 0}, polys.check_poly, NINE, (number, 1))

    def test_numbers_of_lots_are_no_bools(self):
        lot = lots.Lot(FOUR, 1, [[1], [2]])
        for value in (True, False):
            self.refuses(errors.BadLot, {"what": "columns"}, lots.Lot, FOUR, value, [[1]])
            self.refuses(errors.BadLot, {"what": "word"}, lots.Lot, FOUR, 1, [[value]])
            self.refuses(errors.BadClosed, {"what": "columns"}, closed.ClosedLot, FOUR, value, [])
            self.refuses(errors.BadTerms, {}, polylots.PolyLot, FOUR, [1], value)
            self.refuses(errors.BadDistance, {}, bounds.bound_of, FOUR, 1, value)
            self.refuses(errors.BadDistance, {}, bounds.crowded_couple, lot, value)
            self.refuses(errors.BadDistance, {}, formulas.met_counts, 2, 2, 1, value)
            self.refuses(errors.BadSizes, {"what": "rank"}, formulas.words_of_rank, 2, 2, 1, value)
            self.refuses(errors.BadSizes, {"what": "size"}, restcounts.rest_counts, 2, 2, 1, value, ())
            self.refuses(errors.BadCounts, {"what": "row"}, restcounts.turned_counts, 2, 2, 1,
                         (1, value))
            self.refuses(errors.BadSizes, {"what": "part"}, evens.uneven_space, lot, value)
            self.refuses(errors.BadErrors, {}, nearest.members_around, lot, (1,), value)
            self.refuses(errors.BadErrors, {}, middles.between_count, 2, 1, value)
            self.refuses(errors.BadErrors, {}, middles.all_between, FOUR, (1,), (2,), value)
            self.refuses(errors.BadLoss, {"what": "rows"}, losses.Losses, FOUR, 1, [(value,)], ())
            self.refuses(errors.BadCells, {"index": 0}, covers.check_cells, FOUR, 2, [(value, 0)])
            self.refuses(errors.BadLane, {"what": "places"}, lanes.lane_losses, FOUR, 2, (), [value])
            self.refuses(errors.BadComing, {}, deeds.Net, FOUR, 2, value, ())
            self.refuses(errors.BadRows, {"index": 0}, packets.check_rows, FOUR, 1, [(value, 0, 0)])
            self.refuses(errors.NoColumn, {}, joined.struck, closed.ClosedLot(FOUR, 2, ()), value)
            self.refuses(errors.BadNumber, {}, backs.meet_of_steps, closed.ClosedLot(FOUR, 2, ()), value)
            poly_lot = polylots.PolyLot(FOUR, [1], 1)
            self.refuses(errors.BadNumber, {}, datas.poly_of_number, poly_lot, value)
            self.refuses(errors.BadHead, {}, datas.poly_with_head, poly_lot, [value])
            self.refuses(errors.BadEdit, {"index": 0, "what": "form"}, edits.lot_after, poly_lot,
                         [("terms", value)])
            self.refuses(errors.BadGoal, {"index": 0}, goals.first_unmet, poly_lot, [("size", value)])

    def test_lots_stay_as_they_are(self):
        words = [[0, 0], [1, 2], [2, 3], [3, 1]]
        lot, closed_lot = lots.Lot(FOUR, 2, words), closed.ClosedLot(FOUR, 2, words)
        poly_lot = polylots.PolyLot(FOUR, [1, 2], 1)
        before = [copy.deepcopy(vars(thing)) for thing in (lot, closed_lot, poly_lot)]
        lots.distance_of(lot)
        counts.couple_counts(lot)
        evens.even_heads(lot)
        counts.rank_counts(closed_lot)
        within.members_bearing(closed_lot, [[1, 0], [1, 1]])
        reading.read_word(poly_lot, [1, 0])
        nearest.reach_row(poly_lot)
        bounds.member_with_head(lot, [2])
        closed.sum_lots(closed_lot, closed.rest_lot(closed_lot))
        list(closed_lot.all_members())
        poly_lot.as_lot()
        self.refuses(errors.NotMember, {}, poly_lot.poly_for, [1, 1])
        self.assertEqual([vars(thing) for thing in (lot, closed_lot, poly_lot)], before)

    def test_losses_and_lots_stay_as_they_are(self):
        poly_lot = polylots.PolyLot(EIGHT, [1, 2, 4], 1)
        lost = losses.Losses(EIGHT, 3, [[1, 1, 0]], [6])
        clash = clashes.find_clash(poly_lot, 1, 2, 0)
        before = [copy.deepcopy(vars(thing)) for thing in (poly_lot, lost, clash)]
        losses.joined_losses(lost, clash.losses)
        losses.parts_of(lost, [1, 2, 3])
        lostreads.read_lost(poly_lot, [1, 2, 3], lost)
        lostreads.nearest_lost(poly_lot, [1, 2, 3], lost)
        lostreads.hidden_couple(poly_lot, lost)
        clashes.clash_fault(poly_lot, 1, 2, 0, clash)
        store = stores.Store(poly_lot)
        store.write([3])
        store.spoil([[0, 0, 0]])
        store.mend()
        self.assertEqual([vars(thing) for thing in (poly_lot, lost, clash)], before)

    def test_nets_and_closed_lots_stay_as_they_are(self):
        net = deeds.Net(EIGHT, 3, 3, [["drop", 0], ["false", [0, 0, 0, 1, 1, 0]], ["mix", [[1, 0, 1]]]])
        lost, lot = losses.Losses(EIGHT, 3, [[1, 1, 0]], [6]), closed.ClosedLot(EIGHT, 3, [[1, 2, 4]])
        before = [copy.deepcopy(vars(thing)) for thing in (net, lost, lot)]
        rows = deeds.run_net(net, packets.packets_of(EIGHT, [1, 2, 4]))
        deeds.taken_through(net)
        deeds.net_behind(net, deeds.Net(EIGHT, 3, 1, [["copy", 0]]))
        received.received_rows(lost, [1, 2, 3])
        received.net_fault(EIGHT, [1, 2, 4], rows, net)
        joined.side_by_side(joined.struck(joined.struck(lot, 0), 0), joined.shortened(lot, 2))
        joined.mixed(lot, [[0, 1, 0], [1, 0, 0], [0, 1, 1]])
        backs.meet_of_steps(lot, 3)
        self.refuses(errors.NotClosedByThings, {}, backs.points_of, lot)
        self.assertEqual([vars(thing) for thing in (net, lost, lot)], before)

    def test_poly_lots_stay_as_they_are(self):
        poly_lot = polylots.PolyLot(EIGHT, [1, 2], 1)
        before = copy.deepcopy(vars(poly_lot))
        place = bench.Bench(poly_lot)
        place.put_in([3])
        for edit in (["step", 1], ["point", 2], ["mix", [[0, 1, 0], [1, 0, 0], [0, 0, 1]]]):
            place.make(edit)
        bench.try_edits(place, [["terms", 3]], [["size", 9]])
        mends.find_mends(poly_lot, [["terms", 2], ["strike", 0]], [["holds", [1]]])
        likes.struck_points(poly_lot, 0)
        likes.scaled_points(poly_lot, 3)
        datas.poly_with_head(poly_lot, [5])
        self.assertEqual(vars(poly_lot), before)

    def test_objects_stay_as_they_are(self):
        before = copy.deepcopy(vars(TWENTY_SEVEN))
        self.refuses(errors.ZeroThing, {}, TWENTY_SEVEN.over, 5, 0)
        TWENTY_SEVEN.digits_of(5)
        TWENTY_SEVEN.stepped(5, -7)
        polys.put_into(TWENTY_SEVEN, (1, 2), (3, 4))
        spaces.things_space(TWENTY_SEVEN, (5, 6))
        self.assertEqual(vars(TWENTY_SEVEN), before)


if __name__ == "__main__":
    unittest.main()
