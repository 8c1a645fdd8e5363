"""Points [10.9] to [10.11]: the bench."""

import copy
import unittest

from rankwords.bench import Bench, try_edits
from rankwords.edits import check_edits, lot_after
from rankwords.errors import BadEdit, BadGoal, BadPoly, BadWord, Held, NothingDone
from rankwords.goals import first_unmet
from rankwords.polylots import PolyLot
from rankwords.reading import Far, Read, read_word
from tests.support import (Case, EIGHT, FOUR, NINE, NO_INTEGERS, NO_SEQUENCES, SIXTEEN, as_lists,
                           made_of_tuples, poly_lots, random_edit, random_poly, random_word, rng,
                           slow_edited, slow_mixed, slow_power, slow_value)

LOT = PolyLot(EIGHT, (1, 2, 4), 2)
TURNED = ((0, 1, 0), (0, 0, 1), (1, 0, 0))


def state(bench):
    return bench.current, bench.polys, bench.words, bench.log


def led_along(field, edit, word, poly):
    """The word behind the edit, from the word ahead of it; the poly tells the thing at a new point."""
    name, what = edit
    if name == "point":
        return word + (slow_value(field, poly, what),)
    if name == "strike":
        return word[:what] + word[what + 1:]
    if name == "mix":
        return slow_mixed(field, word, what)
    if name == "step":
        return tuple(slow_power(field, thing, field.prime ** what) for thing in word)
    return word


def slow_polys(field, edit, polys):
    if edit[0] != "step":
        return polys
    return tuple(tuple(slow_power(field, thing, field.prime ** edit[1]) for thing in poly)
                 for poly in polys)


def filled(polylot, polys=(), edits=()):
    bench = Bench(polylot)
    for poly in polys:
        bench.put_in(poly)
    for edit in edits:
        bench.make(edit)
    return bench


class NewTest(Case):
    def test_new(self):
        for polylot in poly_lots(1):
            bench = Bench(polylot)
            self.assertEqual(state(bench), (polylot, (), (), ()))

    def test_properties(self):
        for name in ("current", "polys", "words", "log"):
            self.assertIsInstance(vars(Bench)[name], property)

    def test_independent(self):
        one, other = Bench(LOT), Bench(LOT)
        one.put_in((1,))
        one.make(("step", 1))
        self.assertEqual(state(other), (LOT, (), (), ()))
        self.assertEqual(LOT, PolyLot(EIGHT, (1, 2, 4), 2))


class PutTest(Case):
    def test_put_in(self):
        chance = rng(2)
        for polylot in poly_lots(2):
            bench, polys = Bench(polylot), []
            for _ in range(4):
                polys.append(random_poly(chance, polylot.field, polylot.terms))
                self.assertIsNone(bench.put_in(chance.choice((list, tuple))(polys[-1])))
                self.assertEqual(bench.polys, tuple(polys))
                self.assertEqual(bench.words, tuple(
                    tuple(slow_value(polylot.field, poly, point) for point in polylot.points)
                    for poly in polys))
                self.assertEqual(bench.log, tuple(("put", poly) for poly in polys))
                self.assertEqual(bench.current, polylot)
            self.assertTrue(made_of_tuples(state(bench)[1:]))

    def test_more_than_once(self):
        bench = filled(LOT, [(3,), (), (3,), (3,)])
        self.assertEqual(bench.polys, ((3,), (), (3,), (3,)))
        self.assertEqual(bench.words, ((3, 6, 7), (0, 0, 0), (3, 6, 7), (3, 6, 7)))

    def test_many(self):
        bench = filled(LOT, [(1, 2)] * 200)
        self.assertEqual((len(bench.polys), len(bench.log), len(bench.words)), (200, 200, 200))
        for _ in range(200):
            bench.take_back()
        self.assertEqual(state(bench), (LOT, (), (), ()))

    def test_copies(self):
        bench, poly = Bench(LOT), [3]
        bench.put_in(poly)
        poly[0] = 5
        poly.append(1)
        self.assertEqual((bench.polys, bench.log), (((3,),), (("put", (3,)),)))

    def test_refused(self):
        bench = filled(LOT, [(3,), (0, 1)], [("step", 1)])
        before = state(bench)
        for poly in NO_SEQUENCES + ((1, 1, 1), [9] * 3):
            self.refuses(BadPoly, {"index": -1}, bench.put_in, poly)
        for thing in NO_INTEGERS + (-1, 8):
            self.refuses(BadPoly, {"index": 0}, bench.put_in, (thing, 0))
            self.refuses(BadPoly, {"index": 1}, bench.put_in, [0, thing])
        self.refuses(BadPoly, {"index": 1}, bench.put_in, (1, 0))
        self.assertEqual(state(bench), before)

    def test_terms_of_the_present_lot(self):
        bench = Bench(LOT)
        bench.make(("terms", 1))
        self.refuses(BadPoly, {"index": -1}, bench.put_in, (1, 1))
        bench.make(("terms", 3))
        bench.put_in((1, 1, 1))
        self.assertEqual(bench.polys, ((1, 1, 1),))


class ReadTest(Case):
    def test_read_in(self):
        chance, done = rng(3), {Read: 0, Far: 0}
        for polylot in poly_lots(3, 6):
            bench = filled(polylot, [random_poly(chance, polylot.field, polylot.terms)])
            before, word = state(bench), random_word(chance, polylot.field, polylot.columns)
            if chance.randrange(2):
                word = polylot.word_for(random_poly(chance, polylot.field, polylot.terms))
            read = bench.read_in(list(word))
            self.assertEqual(read, read_word(polylot, word))
            if isinstance(read, Far):
                self.assertEqual(state(bench), before)
            else:
                self.assertEqual(bench.polys, before[1] + (read.poly,))
                self.assertEqual(bench.words, before[2] + (read.word,))
                self.assertEqual(bench.log, before[3] + (("put", read.poly),))
                self.assertEqual(bench.take_back(), ("put", read.poly))
                self.assertEqual(state(bench), before)
            done[type(read)] += 1
        self.assertGreater(min(done.values()), 10)

    def test_changed_word(self):
        bench = Bench(PolyLot(EIGHT, (1, 2, 4), 1))
        self.assertEqual(bench.read_in((0, 2, 4)), Read((1,), (1, 2, 4), (1, 0, 0), 1))
        self.assertEqual((bench.polys, bench.words), (((1,),), ((1, 2, 4),)))
        self.assertEqual(bench.read_in((0, 0, 4)).poly, ())
        self.assertEqual(bench.read_in((1, 4, 6)), Far(2))
        self.assertEqual(bench.log, (("put", (1,)), ("put", ())))

    def test_refused(self):
        bench = filled(LOT, [(3,)])
        before = state(bench)
        for word in NO_SEQUENCES + ((), (1, 2), (1, 2, 3, 4)):
            self.refuses(BadWord, {"index": -1}, bench.read_in, word)
        for thing in NO_INTEGERS + (-1, 8):
            self.refuses(BadWord, {"index": 1}, bench.read_in, [7, thing, 9])
        self.assertEqual(state(bench), before)


class MakeTest(Case):
    def test_samples(self):
        """Random edits: the words are led along, or the bench stays as it was."""
        chance, found = rng(4), {}
        for polylot in poly_lots(4, 4):
            field = polylot.field
            polys = [random_poly(chance, field, polylot.terms) for _ in range(chance.randrange(4))]
            bench = filled(polylot, polys)
            for _ in range(8):
                before = state(bench)
                edit = random_edit(chance, field, bench.current.columns)
                behind = slow_edited(bench.current, edit)
                told = (edit[0],)
                if behind is None:
                    self.refuses(BadEdit, {"index": 0, "what": "now"}, bench.make, edit)
                    told += ("now",)
                elif any(len(poly) > behind.terms for poly in bench.polys):
                    first = [len(poly) > behind.terms for poly in bench.polys].index(True)
                    self.refuses(Held, {"index": first}, bench.make, edit)
                    told += ("held",)
                else:
                    self.assertIsNone(bench.make(chance.choice((tuple, as_lists))(edit)))
                    self.assertEqual(bench.current, behind)
                    self.assertEqual(bench.polys, slow_polys(field, edit, before[1]))
                    self.assertEqual(bench.words, tuple(
                        led_along(field, edit, word, poly) for word, poly in zip(before[2], before[1])))
                    self.assertEqual(bench.log, before[3] + check_edits(field, [edit]))
                    self.assertTrue(made_of_tuples(bench.log))
                if len(told) > 1:
                    self.assertEqual(state(bench), before)
                found[told] = found.get(told, 0) + 1
        for told in (("point",), ("strike",), ("terms",), ("mix",), ("step",), ("point", "now"),
                     ("strike", "now"), ("terms", "now"), ("mix", "now"), ("terms", "held")):
            self.assertGreater(found[told], 5, told)

    def test_each(self):
        """The poly (3, 1) has the word (2, 2, 1) at the points (1, 2, 4)."""
        for edit, polys, words in ((("strike", 1), ((3, 1),), ((2, 1),)),
                                   (("terms", 3), ((3, 1),), ((2, 2, 1),)),
                                   (("mix", TURNED), ((3, 1),), ((1, 2, 2),)),
                                   (("step", 1), ((5, 1),), ((4, 4, 1),))):
            bench = filled(LOT, [(3, 1)])
            self.assertEqual(bench.words, ((2, 2, 1),))
            bench.make(edit)
            self.assertEqual((bench.polys, bench.words), (polys, words))
        bench = filled(PolyLot(EIGHT, (1, 2), 2), [(3, 1), ()], [("point", 4)])
        self.assertEqual(bench.words, ((2, 2, 1), (0, 0, 0)))

    def test_copies(self):
        table = [[0, 1, 0], [0, 0, 1], [1, 0, 0]]
        edit = ["mix", table]
        bench = filled(LOT, (), [edit])
        table[0][1] = 0
        edit[0] = "step"
        self.assertEqual(bench.log, (("mix", TURNED),))
        self.assertEqual(bench.current.points, (4, 1, 2))

    def test_form(self):
        bench = filled(LOT, [(3, 1)])
        before = state(bench)
        for edit in NO_SEQUENCES + ((), ("step",), ("step", 3), ("step", True), ("terms", 0),
                                    ("put", (3,)), ("mix", ((1, 1), (1, 1))), ("point", 8)):
            self.refuses(BadEdit, {"index": 0, "what": "form"}, bench.make, edit)
        self.assertEqual(state(bench), before)

    def test_now_and_held(self):
        bench = filled(LOT, [(), (3,), (3, 1), (3, 1)])
        before = state(bench)
        for edit in (("point", 3), ("mix", ((1,),))):
            self.refuses(BadEdit, {"index": 0, "what": "now"}, bench.make, edit)
        self.refuses(Held, {"index": 2}, bench.make, ("terms", 1))
        self.assertEqual(state(bench), before)
        # Struck twice the lot has one term left; the poly of one term is held on.
        bench.make(("strike", 0))
        before = state(bench)
        self.refuses(Held, {"index": 2}, bench.make, ("strike", 0))
        self.refuses(BadEdit, {"index": 0, "what": "now"}, bench.make, ("terms", 3))
        self.assertEqual(state(bench), before)
        short = filled(PolyLot(EIGHT, (1, 2), 2), [(3,)], [("strike", 0)])
        self.assertEqual((short.words, short.current), (((6,),), PolyLot(EIGHT, (2,), 1)))
        self.refuses(BadEdit, {"index": 0, "what": "now"}, short.make, ("strike", 0))

    def test_log_of_200(self):
        bench = filled(LOT, [(3, 1)], [("step", 1)] * 198 + [("step", 0)])
        self.assertEqual(len(bench.log), 200)
        self.assertEqual((bench.current, bench.polys), (LOT, ((3, 1),)))


class BackTest(Case):
    def test_samples(self):
        """Whatever was done, it is taken back step by step."""
        chance = rng(5)
        for polylot in poly_lots(5, 2):
            bench, ahead = Bench(polylot), []
            for _ in range(12):
                before = state(bench)
                if chance.randrange(2):
                    bench.put_in(random_poly(chance, polylot.field, bench.current.terms))
                else:
                    try:
                        bench.make(random_edit(chance, polylot.field, bench.current.columns))
                    except (BadEdit, Held):
                        self.assertEqual(state(bench), before)
                        continue
                ahead.append(before)
                if chance.randrange(4) == 0:
                    entry = bench.log[-1]
                    self.assertEqual(bench.take_back(), entry)
                    self.assertEqual(state(bench), ahead.pop())
            while ahead:
                entry = bench.log[-1]
                self.assertEqual(bench.take_back(), entry)
                self.assertEqual(state(bench), ahead.pop())
            self.assertEqual(state(bench), (polylot, (), (), ()))
            self.refuses(NothingDone, {}, bench.take_back)

    def test_nothing_done(self):
        bench = Bench(LOT)
        self.refuses(NothingDone, {}, bench.take_back)
        bench.put_in((3,))
        self.assertEqual(bench.take_back(), ("put", (3,)))
        self.refuses(NothingDone, {}, bench.take_back)
        self.assertEqual(state(bench), (LOT, (), (), ()))

    def test_entries(self):
        bench = filled(LOT, [[3, 1]], [["mix", as_lists(TURNED)], ["step", 2]])
        self.assertEqual(bench.log, (("put", (3, 1)), ("mix", TURNED), ("step", 2)))
        self.assertEqual(bench.take_back(), ("step", 2))
        self.assertEqual(bench.take_back(), ("mix", TURNED))
        self.assertEqual(state(bench), (LOT, ((3, 1),), ((2, 2, 1),), (("put", (3, 1)),)))

    def test_goes_on(self):
        """Behind what was taken back the bench works as if it had not been done."""
        bench = filled(PolyLot(EIGHT, (1, 2), 1), [(3,)], [("point", 4), ("terms", 3)])
        bench.put_in((1, 1, 1))
        bench.take_back()
        bench.take_back()
        bench.make(("step", 1))
        self.assertEqual((bench.polys, bench.words), (((5,),), ((5, 2, 3),)))
        self.assertEqual(bench.log, (("put", (3,)), ("point", 4), ("step", 1)))


class TryTest(Case):
    def test_samples(self):
        chance, found = rng(6), {}
        for polylot in poly_lots(6, 10):
            field = polylot.field
            polys = [random_poly(chance, field, polylot.terms) for _ in range(2)]
            bench = filled(polylot, polys, [("step", 0)])
            edits = [random_edit(chance, field, polylot.columns) for _ in range(chance.randrange(4))]
            goals = [("distance", chance.randrange(1, field.degree + 2)), ("size", polylot.size)]
            before, other = state(bench), filled(polylot, polys)
            told = None
            for index, edit in enumerate(edits):
                try:
                    other.make(edit)
                except BadEdit:
                    told = (BadEdit, {"index": index, "what": "now"})
                    break
                except Held as held:
                    told = (Held, {"index": held.index})
                    break
            if told is None:
                wanted = first_unmet(other.current, goals)
                self.assertEqual(try_edits(bench, edits, goals), wanted)
                self.assertEqual(try_edits(bench, as_lists(edits), goals=as_lists(goals)), wanted)
                self.assertIsNone(try_edits(bench, edits))
                self.assertEqual(other.current, lot_after(polylot, edits))
                found[wanted] = found.get(wanted, 0) + 1
            else:
                self.refuses(*told, try_edits, bench, edits, goals)
                found[told[0]] = found.get(told[0], 0) + 1
            self.assertEqual(state(bench), before)
        self.assertGreater(min(found[key] for key in (None, 0, 1, BadEdit, Held)), 5)

    def test_bench_goes_on(self):
        bench = filled(LOT, [(3, 1)], [("step", 1)])
        before = state(bench)
        self.assertEqual(try_edits(bench, [("strike", 0), ("mix", ((1, 1), (0, 1))), ("step", 1)],
                                   [("distance", 1), ("distance", 2)]), 1)
        self.assertEqual(state(bench), before)
        self.assertEqual(bench.take_back(), ("step", 1))
        self.assertEqual(state(bench), (LOT, ((3, 1),), ((2, 2, 1),), (("put", (3, 1)),)))

    def test_no_edits(self):
        bench = filled(LOT, [(3, 1)])
        self.assertIsNone(try_edits(bench, ()))
        self.assertIsNone(try_edits(bench, [], []))
        self.assertEqual(try_edits(bench, [], [("size", 64), ("size", 65)]), 1)

    def test_held(self):
        bench = filled(LOT, [(3,), (3, 1)])
        self.refuses(Held, {"index": 1}, try_edits, bench, [("step", 1), ("step", 1), ("terms", 1)])
        # What is held counts behind each edit, not at the end alone.
        self.refuses(Held, {"index": 1}, try_edits, bench, [("terms", 1), ("terms", 2)])
        self.refuses(BadEdit, {"index": 0, "what": "now"}, try_edits, bench,
                     [("point", 3), ("terms", 1)])
        self.assertEqual(bench.log, (("put", (3,)), ("put", (3, 1))))

    def test_refused(self):
        bench = filled(LOT, [(3, 1)])
        before = state(bench)
        for edits in NO_SEQUENCES + ([("step", 1)] * 31,):
            self.refuses(BadEdit, {"index": 0, "what": "form"}, try_edits, bench, edits, None)
        self.refuses(BadEdit, {"index": 1, "what": "form"}, try_edits, bench,
                     [("terms", 1), ("step", 3)], None)
        for goals in NO_SEQUENCES + ([("size", 1)] * 11,):
            self.refuses(BadGoal, {"index": 0}, try_edits, bench, [("terms", 1)], goals)
        self.refuses(BadGoal, {"index": 1}, try_edits, bench, [("point", 1)],
                     [("size", 10 ** 9), ("like", PolyLot(FOUR, (1,), 1))])
        self.assertEqual(state(bench), before)

    def test_thirty_edits(self):
        bench = filled(PolyLot(SIXTEEN, (1, 2), 1), [(9,)])
        self.assertIsNone(try_edits(bench, [("point", 4), ("strike", 2)] * 15, [("distance", 2)]))
        self.assertEqual(bench.words, filled(PolyLot(SIXTEEN, (1, 2), 1), [(9,)]).words)

    def test_nothing_passed_in_changes(self):
        bench = filled(PolyLot(NINE, (1, 3), 1), [(4,)])
        edits, goals = [["mix", [[0, 1], [1, 0]]], ["step", 1]], [["holds", [1, 2]]]
        kept = copy.deepcopy((edits, goals))
        try_edits(bench, edits, goals)
        self.assertEqual((edits, goals), kept)


if __name__ == "__main__":
    unittest.main()
