"""Points [10.8] and [10.12]: mends and spoilers."""

import itertools
import unittest

from rankwords.edits import lot_after
from rankwords.errors import BadEdit, BadGoal, TooMany
from rankwords.goals import first_unmet
from rankwords.mends import find_mends, find_spoilers
from rankwords.polylots import PolyLot
from tests.support import (Case, EIGHT, FOUR, NO_SEQUENCES, SIXTEEN, TWO, as_lists, poly_lots,
                           random_edit, rng)

POOL = (("terms", 2), ("point", 4), ("point", 3))
LOT = PolyLot(EIGHT, (1, 2), 1)


def states(polylot, pool, goals):
    """All sets of indexes whose edits can be made, with whether the goals are met behind them."""
    found = {}
    for many in range(len(pool) + 1):
        for indexes in itertools.combinations(range(len(pool)), many):
            try:
                behind = lot_after(polylot, [pool[index] for index in indexes])
            except BadEdit:
                continue
            found[indexes] = first_unmet(behind, goals) is None
    return found


def slow_least(polylot, pool, goals, good):
    """The sets with this state of which no smaller part has it, by all their parts."""
    found = states(polylot, pool, goals)
    return tuple(one for one in found if found[one] is good and not any(
        set(other) < set(one) and found[other] is good for other in found))


class MendsTest(Case):
    def check(self, polylot, pool, goals):
        mends, spoilers = find_mends(polylot, pool, goals), find_spoilers(polylot, pool, goals)
        self.assertEqual(mends, slow_least(polylot, pool, goals, True))
        self.assertEqual(spoilers, slow_least(polylot, pool, goals, False))
        for indexes, good in states(polylot, pool, goals).items():
            least = mends if good else spoilers
            self.assertTrue(any(set(one) <= set(indexes) for one in least))
        return mends, spoilers

    def test_samples(self):
        chance, sizes = rng(1), {True: 0, False: 0}
        for polylot in poly_lots(1, 8):
            pool = [random_edit(chance, polylot.field, polylot.columns)
                    for _ in range(chance.randrange(7))]
            degree = polylot.field.degree
            goals = chance.choice(([("distance", chance.randrange(1, degree + 2))],
                                   [("size", polylot.size * chance.choice((1, 1, 2)))],
                                   [("bears", 0, chance.randrange(min(degree, 2) + 1), 0)],
                                   [("size", polylot.size), ("distance", polylot.distance)],
                                   [("holds", polylot.points)], [("like", polylot)], []))
            mends, spoilers = self.check(polylot, pool, goals)
            sizes[True] += any(len(one) > 1 for one in mends)
            sizes[False] += any(len(one) > 1 for one in spoilers)
            self.takes_lists(find_mends, polylot, tuple(pool), tuple(goals[:0]))
        self.assertGreater(min(sizes.values()), 3)

    def test_pools_of_one_kind(self):
        """All orders of some edits: sets are made in the order of the pool."""
        edits = [("point", 4), ("strike", 0), ("terms", 2), ("step", 1)]
        for pool in itertools.permutations(edits):
            self.check(LOT, pool, [("distance", 2), ("size", 64)])
            self.check(LOT, pool, [("holds", (2, 4))])
            self.check(LOT, pool, [("like", PolyLot(EIGHT, (2, 4), 1))])

    def test_order_of_the_pool(self):
        """Behind the point there is room for a third term, ahead of it there is none."""
        self.assertEqual(find_mends(LOT, [("point", 4), ("terms", 3)], [("size", 512)]), ((0, 1),))
        self.assertEqual(find_mends(LOT, [("terms", 3), ("point", 4)], [("size", 512)]), ())

    def test_order_of_the_mends(self):
        """Shorter sets come first, equally long ones ascend; no mend holds another one."""
        pool = [("point", 4), ("strike", 0), ("point", 7), ("step", 1), ("terms", 2), ("terms", 2)]
        self.assertEqual(self.check(LOT, pool, [("distance", 3)])[0], ((0,), (2,)))
        self.assertEqual(self.check(LOT, pool, [("size", 64)])[0], ((4,), (5,)))
        self.assertEqual(self.check(LOT, pool, [("size", 64), ("distance", 2)])[0],
                         ((0, 4), (0, 5), (2, 4), (2, 5)))
        self.assertEqual(self.check(LOT, pool, [("size", 64), ("distance", 1), ("bears", 0, 0, 0)])[0],
                         ((4,), (5,)))

    def test_empty_pool(self):
        self.assertEqual(self.check(LOT, [], []), (((),), ()))
        self.assertEqual(self.check(LOT, (), [("distance", 2)]), (((),), ()))
        self.assertEqual(self.check(LOT, (), [("distance", 3)]), ((), ((),)))

    def test_pool_of_six(self):
        pool = [("step", 1)] * 6
        # The six steps of 4 and of 2 lead the points back, three steps do, too.
        self.assertEqual(self.check(LOT, pool, [("like", PolyLot(EIGHT, (1, 2), 1))])[0], ((),))
        points = [EIGHT.stepped(point, 2) for point in (1, 2)]
        mends, _ = self.check(LOT, pool, [("like", PolyLot(EIGHT, points, 1))])
        self.assertEqual(mends, tuple(itertools.combinations(range(6), 2)))
        mends, _ = self.check(LOT, [("point", 1)] * 6, [("distance", 3)])
        self.assertEqual(mends, ())

    def test_neither_good_nor_bad(self):
        """Sets whose edits cannot be made are no mends and no spoilers."""
        self.assertEqual(self.check(LOT, [("terms", 3)], [("distance", 2)]), (((),), ()))
        self.assertEqual(self.check(PolyLot(TWO, (1,), 1), [("point", 1), ("strike", 0)], []),
                         (((),), ()))

    def test_good_behind_bad(self):
        """A set may be good, one that holds it bad, and one that holds that good again."""
        pool = [("terms", 2), ("point", 4)]
        mends, spoilers = self.check(LOT, pool, [("distance", 2)])
        self.assertEqual((mends, spoilers), (((),), ((0,),)))
        mends, spoilers = self.check(PolyLot(EIGHT, (1, 2), 2), pool, [("distance", 2)])
        self.assertEqual((mends, spoilers), (((1,),), ((),)))

    def test_example(self):
        goals = [("bears", 1, 0, 0)]
        self.assertEqual(find_mends(LOT, POOL, goals), ((1,),))
        self.assertEqual(find_spoilers(LOT, POOL, goals), ((),))
        self.assertEqual(find_mends(LOT, as_lists(POOL), as_lists(goals)), ((1,),))
        self.check(LOT, POOL, goals)

    def test_refused(self):
        for function in (find_mends, find_spoilers):
            for pool in NO_SEQUENCES + ([("step", 1)] * 31, (None,) * 31):
                self.refuses(BadEdit, {"index": 0, "what": "form"}, function, LOT, pool, None)
            for edit in (("step", 3), ("step",), None, ("mix", ((1, 1), (1, 1))), ["point", True]):
                self.refuses(BadEdit, {"index": 1, "what": "form"}, function, LOT,
                             [("step", 1), edit, 5], None)
                self.refuses(BadEdit, {"index": 7, "what": "form"}, function, LOT,
                             [("step", 1)] * 7 + [edit], None)
            for many in (7, 8, 30):
                self.refuses(TooMany, {"size": many}, function, LOT, [("step", 1)] * many, None)
            for goals in NO_SEQUENCES + ([("size", 1)] * 11,):
                self.refuses(BadGoal, {"index": 0}, function, LOT, POOL, goals)
            self.refuses(BadGoal, {"index": 1}, function, LOT, POOL, [("size", 1), ("size", -1), 5])
            self.refuses(BadGoal, {"index": 0}, function, LOT, (), [("like", PolyLot(FOUR, (1,), 1))])

    def test_lot_stays(self):
        lot = PolyLot(SIXTEEN, (1, 2, 4), 2)
        before = lot.points, lot.terms, lot.size, lot.columns
        find_mends(lot, [("strike", 0), ("point", 8), ("terms", 1)], [("distance", 4)])
        find_spoilers(lot, [("strike", 0), ("point", 8), ("terms", 1)], [("distance", 4)])
        self.assertEqual((lot.points, lot.terms, lot.size, lot.columns), before)


if __name__ == "__main__":
    unittest.main()
