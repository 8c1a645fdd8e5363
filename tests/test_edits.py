"""Points [10.4] and [10.5]: edits and the poly lots behind them."""

import copy
import unittest

from rankwords.edits import check_edits, lot_after
from rankwords.errors import BadEdit
from rankwords.polylots import PolyLot
from tests.support import (Case, EIGHT, FOUR, NINE, NO_INTEGERS, NO_SEQUENCES, SIXTEEN, TWENTY_SEVEN,
                           TWO, as_lists, made_of_tuples, poly_lots, random_edit, rng, slow_edited)

TURNED = ((0, 1, 0), (0, 0, 1), (1, 0, 0))
LOT = PolyLot(EIGHT, (1, 2, 4), 2)


def reversing(size):
    """The table that turns the order of so many columns round."""
    return tuple(tuple(int(place + at == size - 1) for at in range(size)) for place in range(size))


class CheckTest(Case):
    def test_good_edits(self):
        edits = [["point", 7], ("point", 0), ["strike", 0], ("strike", 2), ["terms", 1], ("terms", 3),
                 ["mix", [[1]]], ("mix", ([1, 1], (0, 1))), ("mix", TURNED), ["step", 0], ("step", 2)]
        kept = copy.deepcopy(edits)
        self.assertEqual(check_edits(EIGHT, edits), (
            ("point", 7), ("point", 0), ("strike", 0), ("strike", 2), ("terms", 1), ("terms", 3),
            ("mix", ((1,),)), ("mix", ((1, 1), (0, 1))), ("mix", TURNED), ("step", 0), ("step", 2)))
        self.assertEqual(edits, kept)
        self.assertTrue(made_of_tuples(check_edits(EIGHT, edits)))
        self.takes_lists(check_edits, EIGHT, tuple(check_edits(EIGHT, edits)))

    def test_copies(self):
        table = [[1, 0], [0, 1]]
        edits = [["mix", table], ["step", 1]]
        kept = check_edits(EIGHT, edits)
        table[0][0] = 0
        edits[1][1] = 2
        edits.append(["step", 0])
        self.assertEqual(kept, (("mix", ((1, 0), (0, 1))), ("step", 1)))

    def test_many(self):
        self.assertEqual(check_edits(FOUR, []), ())
        self.assertEqual(check_edits(FOUR, [("step", 1)] * 30), (("step", 1),) * 30)
        for function, first in ((check_edits, EIGHT), (lot_after, LOT)):
            for edits in NO_SEQUENCES + ([("step", 1)] * 31, (None,) * 31):
                self.refuses(BadEdit, {"index": 0, "what": "form"}, function, first, edits)

    def refused(self, edit, field=EIGHT):
        lot = PolyLot(field, (1,), 1)
        for function, first in ((check_edits, field), (lot_after, lot)):
            self.refuses(BadEdit, {"index": 0, "what": "form"}, function, first, [edit, None])
            self.refuses(BadEdit, {"index": 2, "what": "form"}, function, first,
                         (["step", 0], ("terms", 1), edit))
            self.refuses(BadEdit, {"index": 29, "what": "form"}, function, first,
                         [("step", 0)] * 29 + [edit])

    def test_no_couples(self):
        for edit in NO_SEQUENCES + ((), ("step",), ("step", 0, 0), ["point"], ("strike", 0, 0)):
            self.refused(edit)

    def test_words(self):
        for word in NO_INTEGERS + NO_SEQUENCES + ("", "Step", "step ", "put", "points", b"step",
                                                  ["step"]):
            for what in (1, TURNED):
                self.refused((word, what))

    def test_numbers(self):
        """The least and the greatest number of each edit, and what lies beyond."""
        for field in (TWO, FOUR, EIGHT, SIXTEEN, NINE, TWENTY_SEVEN):
            for word, least, most in (("point", 0, field.size - 1), ("strike", 0, field.degree - 1),
                                      ("terms", 1, field.degree), ("step", 0, field.degree - 1)):
                for number in range(least, most + 1):
                    self.assertEqual(check_edits(field, [[word, number]]), ((word, number),))
                for number in NO_INTEGERS + (least - 1, most + 1, 10 ** 59, -10 ** 59):
                    self.refused((word, number), field)

    def test_tables(self):
        for table in NO_SEQUENCES + ((), [], ((1, 0),), ((1,), (0,)), TURNED[:2]):
            self.refused(("mix", table))
        for row in NO_SEQUENCES + ((), (1,), (1, 0, 0)):
            self.refused(("mix", ((1, 0), row)))
        for digit in NO_INTEGERS + (-1, 2, 10 ** 59):
            self.refused(("mix", [[1, 0], [0, digit]]))
        for table in (((0,),), ((1, 1), (1, 1)), ((0, 0), (0, 0)), ((1, 1, 0), (0, 1, 1), (1, 0, 1))):
            self.refused(("mix", table))
        self.refused(("mix", ((1, 2), (2, 1))), NINE)
        units = [[int(row == place) for place in range(4)] for row in range(4)]
        self.refused(("mix", units), EIGHT)
        self.assertEqual(check_edits(SIXTEEN, [("mix", units)])[0][1], tuple(map(tuple, units)))
        self.assertEqual(check_edits(NINE, [("mix", [[2]])]), (("mix", ((2,),)),))


class AfterTest(Case):
    def test_each(self):
        for edit, points, terms in ((("strike", 0), (2, 4), 2), (("strike", 2), (1, 2), 2),
                                    (("terms", 1), (1, 2, 4), 1), (("terms", 3), (1, 2, 4), 3),
                                    (("mix", TURNED), (4, 1, 2), 2), (("step", 1), (1, 4, 6), 2),
                                    (("step", 0), (1, 2, 4), 2)):
            self.assertEqual(lot_after(LOT, [edit]), PolyLot(EIGHT, points, terms))
        self.assertEqual(lot_after(PolyLot(EIGHT, (1, 2), 2), [("point", 5)]),
                         PolyLot(EIGHT, (1, 2, 5), 2))
        self.assertEqual(lot_after(PolyLot(EIGHT, (1, 2, 4), 3), [("strike", 1)]),
                         PolyLot(EIGHT, (1, 4), 2))

    def test_no_edits(self):
        for polylot in poly_lots(1):
            for edits in ((), []):
                self.assertEqual(lot_after(polylot, edits), polylot)

    def test_samples(self):
        """Edits made one after another, up to the first one that cannot be made."""
        chance, found = rng(2), {None: 0}
        for polylot in poly_lots(2, 12):
            edits, behind, stopped = [], polylot, None
            for index in range(chance.randrange(1, 7)):
                edits.append(random_edit(chance, polylot.field, (behind or polylot).columns))
                if stopped is None:
                    behind = slow_edited(behind, edits[-1])
                    stopped = index if behind is None else None
            found[stopped] = found.get(stopped, 0) + 1
            if stopped is None:
                self.assertEqual(lot_after(polylot, edits), behind)
                self.assertEqual(lot_after(polylot, as_lists(edits)), behind)
            else:
                self.refuses(BadEdit, {"index": stopped, "what": "now"}, lot_after, polylot, edits)
        self.assertGreater(found[None], 20)
        self.assertGreater(found[2], 10)

    def test_all_single_edits(self):
        for polylot in poly_lots(3, fields=(TWO, FOUR, EIGHT, NINE)):
            field = polylot.field
            edits = [("point", thing) for thing in range(field.size)]
            edits += [(word, number) for word in ("strike", "step") for number in range(field.degree)]
            edits += [("terms", number + 1) for number in range(field.degree)]
            edits += [("mix", reversing(number + 1)) for number in range(field.degree)]
            for edit in edits:
                wanted = slow_edited(polylot, edit)
                if wanted is None:
                    self.refuses(BadEdit, {"index": 0, "what": "now"}, lot_after, polylot, [edit])
                else:
                    self.assertEqual(lot_after(polylot, [edit]), wanted)

    def test_cannot_be_made(self):
        one = PolyLot(EIGHT, (3,), 1)
        for polylot, edit in ((LOT, ("point", 5)), (LOT, ("point", 0)), (one, ("point", 3)),
                              (one, ("point", 0)), (one, ("strike", 0)), (one, ("strike", 1)),
                              (PolyLot(EIGHT, (1, 2), 1), ("strike", 2)), (one, ("terms", 2)),
                              (PolyLot(EIGHT, (1, 2), 1), ("terms", 3)), (one, ("mix", TURNED)),
                              (LOT, ("mix", ((1, 0), (0, 1)))), (LOT, ("mix", ((1,),)))):
            self.refuses(BadEdit, {"index": 0, "what": "now"}, lot_after, polylot, [edit])
            self.refuses(BadEdit, {"index": 2, "what": "now"}, lot_after, polylot,
                         [("step", 1), ("step", 2), edit, ("strike", 2)])
        for field, points in ((TWO, (1,)), (FOUR, (1, 2)), (SIXTEEN, (1, 2, 4, 8))):
            for thing in range(field.size):
                self.refuses(BadEdit, {"index": 0, "what": "now"}, lot_after,
                             PolyLot(field, points, 1), [("point", thing)])

    def test_as_it_is_then(self):
        """Whether an edit can be made goes by the edits ahead of it."""
        self.assertEqual(lot_after(LOT, [("strike", 0), ("strike", 0), ("point", 1), ("point", 2)]),
                         PolyLot(EIGHT, (4, 1, 2), 1))
        self.refuses(BadEdit, {"index": 2, "what": "now"}, lot_after, LOT,
                     [("strike", 0), ("strike", 0), ("strike", 0)])
        self.refuses(BadEdit, {"index": 1, "what": "now"}, lot_after, LOT,
                     [("strike", 0), ("strike", 2)])
        self.refuses(BadEdit, {"index": 1, "what": "now"}, lot_after, LOT,
                     [("strike", 0), ("mix", TURNED)])

    def test_form_ahead_of_now(self):
        self.refuses(BadEdit, {"index": 1, "what": "form"}, lot_after, LOT,
                     [("point", 1), ("point", 8)])
        self.refuses(BadEdit, {"index": 2, "what": "form"}, lot_after, LOT,
                     [("point", 1), ("strike", 2), ("strike", 3)])

    def test_lot_stays(self):
        before = LOT.points, LOT.terms, LOT.size
        lot_after(LOT, [("strike", 1), ("step", 1), ("terms", 1)])
        self.refuses(BadEdit, {"index": 1, "what": "now"}, lot_after, LOT, [("step", 1), ("point", 1)])
        self.assertEqual((LOT.points, LOT.terms, LOT.size), before)


if __name__ == "__main__":
    unittest.main()
