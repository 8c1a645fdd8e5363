"""Points [10.6] and [10.7]: goals, and which of them a poly lot meets."""

import copy
import unittest

from rankwords.errors import BadGoal
from rankwords.goals import check_goals, first_unmet
from rankwords.likes import scaled_points
from rankwords.lots import Lot
from rankwords.polylots import PolyLot
from tests.support import (Case, EIGHT, FIELDS, FOUR, NINE, NO_INTEGERS, NO_SEQUENCES, SIXTEEN,
                           TWENTY_SEVEN, all_words, made_of_tuples, poly_lots, random_points,
                           random_poly, random_word, rng)

LOT = PolyLot(EIGHT, (1, 2, 4), 1)


def slow_meets(polylot, goal):
    """Whether a goal is met, from the members where there are few of them."""
    word = goal[0]
    if word == "bears":
        return 2 * goal[1] + goal[2] + goal[3] <= polylot.columns - polylot.terms
    if word == "size":
        return polylot.field.size ** polylot.terms >= goal[1]
    if word == "distance":
        return polylot.columns - polylot.terms + 1 >= goal[1]
    closed = polylot.as_closed()
    if word == "holds":
        return len(goal[1]) == polylot.columns and closed.holds(goal[1])
    return goal[1].columns == polylot.columns and goal[1].as_closed() == closed


def random_goal(chance, polylot):
    field, degree = polylot.field, polylot.field.degree
    columns = polylot.columns if chance.randrange(4) else chance.randrange(1, degree + 1)
    points = random_points(chance, field, columns)
    if columns == polylot.columns and chance.randrange(2):
        points = scaled_points(polylot, chance.randrange(1, field.size)).points
    word = random_word(chance, field, columns)
    if chance.randrange(2):
        word = polylot.word_for(random_poly(chance, field, polylot.terms))
    bears = tuple(chance.randrange(min(degree, 2) + 1) for _ in range(3))
    return chance.choice((("bears",) + bears,
                          ("size", polylot.size + chance.randrange(-1, 2)),
                          ("distance", chance.randrange(1, degree + 2)), ("holds", word),
                          ("like", PolyLot(field, points, min(columns, polylot.terms)))))


class CheckTest(Case):
    def test_good_goals(self):
        goals = [["bears", 0, 3, 1], ("bears", 3, 0, 0), ["size", 0], ("size", 10 ** 9),
                 ["distance", 1], ("distance", 4), ["holds", [1]], ("holds", (0, 7, 3)),
                 ["holds", (1, 2)], ["like", LOT], ("like", PolyLot(EIGHT, (3,), 1))]
        kept = [list(goal) for goal in goals]
        for part in (goals[:10], goals[1:]):
            found = check_goals(EIGHT, part)
            self.assertTrue(made_of_tuples([goal for goal in found if goal[0] != "like"][0]))
            self.assertTrue(all(isinstance(goal, tuple) for goal in found))
            self.assertEqual([list(goal) for goal in found], [
                [goal[0], tuple(goal[1])] if goal[0] == "holds" else list(goal) for goal in part])
        self.assertEqual([list(goal) for goal in goals], kept)
        self.assertIs(check_goals(EIGHT, goals[9:])[0][1], LOT)
        self.assertEqual(check_goals(EIGHT, (["holds", [1, 2]],)), (("holds", (1, 2)),))

    def test_copies(self):
        word = [1, 2]
        goals = [["holds", word], ["size", 1]]
        found = check_goals(EIGHT, goals)
        word[0] = 5
        goals[1][1] = 7
        self.assertEqual(found, (("holds", (1, 2)), ("size", 1)))

    def test_many(self):
        self.assertEqual(check_goals(FOUR, []), ())
        self.assertEqual(check_goals(FOUR, [("size", 1)] * 10), (("size", 1),) * 10)
        for function, first in ((check_goals, EIGHT), (first_unmet, LOT)):
            for goals in NO_SEQUENCES + ([("size", 1)] * 11, (None,) * 11):
                self.refuses(BadGoal, {"index": 0}, function, first, goals)

    def refused(self, goal, field=EIGHT):
        lot = PolyLot(field, (1,), 1)
        for function, first in ((check_goals, field), (first_unmet, lot)):
            self.refuses(BadGoal, {"index": 0}, function, first, [goal, None])
            # The goal ahead of it is not met, which is looked at later.
            self.refuses(BadGoal, {"index": 2}, function, first,
                         (["size", 10 ** 9], ("distance", 1), goal, None))
            self.refuses(BadGoal, {"index": 9}, function, first, [("size", 0)] * 9 + [goal])

    def test_lengths(self):
        for goal in NO_SEQUENCES + ((), ("size",), ("size", 1, 1), ("distance",), ("distance", 1, 1),
                                    ("holds",), ("holds", 1, 2), ("holds", (1,), (2,)), ("like",),
                                    ("like", LOT, LOT), ("bears",), ("bears", 1), ("bears", 1, 0),
                                    ("bears", 1, 0, 0, 0), ["bears", (1, 0, 0)]):
            self.refused(goal)

    def test_words(self):
        for word in NO_INTEGERS + NO_SEQUENCES + ("", "Size", "sizes", "meets", b"size", ["size"]):
            self.refused((word, 1))
            self.refused([word, 1, 0, 0])
            self.refused((word, LOT))
            self.refused((word, (1, 2)))

    def test_numbers(self):
        for field in FIELDS:
            degree = field.degree
            for number in range(degree + 1):
                self.assertEqual(len(check_goals(field, [("bears", number, 0, degree),
                                                         ("distance", number + 1)])), 2)
            for number in NO_INTEGERS + (-1, degree + 1, 10 ** 59):
                for place in range(1, 4):
                    goal = ["bears", 0, 0, 0]
                    goal[place] = number
                    self.refused(goal, field)
            for number in NO_INTEGERS + (0, -1, degree + 2, 10 ** 59):
                self.refused(("distance", number), field)
        for number in NO_INTEGERS + (-1, 10 ** 9 + 1, 10 ** 59):
            self.refused(("size", number))

    def test_members(self):
        for word in NO_SEQUENCES + ((), (0,) * 4):
            self.refused(("holds", word))
        for thing in NO_INTEGERS + (-1, 8):
            self.refused(("holds", (7, thing)))
        self.assertEqual(len(check_goals(SIXTEEN, [("holds", (15,) * 4)])), 1)

    def test_lots(self):
        for lot in NO_INTEGERS + NO_SEQUENCES + (LOT.as_closed(), LOT.as_lot(), PolyLot, "LOT",
                                                 PolyLot(SIXTEEN, (1, 2, 4), 1),
                                                 PolyLot(TWENTY_SEVEN, (1,), 1), Lot(EIGHT, 1, [[1]])):
            self.refused(("like", lot))


class UnmetTest(Case):
    def test_samples(self):
        chance, found = rng(1), {}
        for polylot in poly_lots(1, 10):
            goals = [random_goal(chance, polylot) for _ in range(chance.randrange(5))]
            met = [slow_meets(polylot, goal) for goal in goals]
            wanted = met.index(False) if False in met else None
            self.assertEqual(first_unmet(polylot, goals), wanted)
            self.assertEqual(first_unmet(polylot, tuple(map(list, goals))), wanted)
            for goal, fits in zip(goals, met):
                self.assertEqual(first_unmet(polylot, [goal]), None if fits else 0)
                found[goal[0], fits] = found.get((goal[0], fits), 0) + 1
        self.assertEqual(len(found), 10)
        self.assertGreater(min(found.values()), 5)

    def test_no_goals(self):
        self.assertIsNone(first_unmet(LOT, ()))
        self.assertIsNone(first_unmet(LOT, []))

    def test_just_met(self):
        """The distance is 3 and the size is 8."""
        for good, bad in ((("bears", 1, 0, 0), ("bears", 1, 1, 0)), (("bears", 0, 2, 0),
                                                                    ("bears", 0, 3, 0)),
                          (("bears", 0, 1, 1), ("bears", 0, 1, 2)), (("bears", 0, 0, 2),
                                                                    ("bears", 1, 0, 1)),
                          (("size", 8), ("size", 9)), (("distance", 3), ("distance", 4)),
                          (("holds", (1, 2, 4)), ("holds", (1, 2, 5))),
                          (("holds", [0, 0, 0]), ("holds", [0, 0])),
                          (("like", PolyLot(EIGHT, (2, 4, 3), 1)),
                           ("like", PolyLot(EIGHT, (2, 4, 1), 1))),
                          (("like", LOT), ("like", PolyLot(EIGHT, (1, 2, 4), 2)))):
            self.assertIsNone(first_unmet(LOT, [good]))
            self.assertEqual(first_unmet(LOT, [bad]), 0)
            self.assertEqual(first_unmet(LOT, [good, good, bad, bad]), 2)

    def test_great_size(self):
        self.assertEqual(first_unmet(LOT, [("size", 0), ("size", 10 ** 9)]), 1)
        full = PolyLot(SIXTEEN, (1, 2, 4, 8), 4)
        self.assertEqual(first_unmet(full, [("size", 16 ** 4), ("size", 16 ** 4 + 1)]), 1)

    def test_other_columns(self):
        """A word or a lot of other columns is a goal, which is not met."""
        full = PolyLot(NINE, (1, 3), 2)
        self.assertEqual(first_unmet(full, [("holds", (1, 2)), ("holds", (0,))]), 1)
        self.assertEqual(first_unmet(full, [("like", PolyLot(NINE, (4, 1), 2)),
                                            ("like", PolyLot(NINE, (1,), 1))]), 1)

    def test_members_gone_through(self):
        for polylot in poly_lots(2, fields=(FOUR, EIGHT)):
            if polylot.field.size ** polylot.columns <= 64:
                members = set(polylot.all_members())
                for word in all_words(polylot.field, polylot.columns):
                    unmet = first_unmet(polylot, [("holds", word)])
                    self.assertEqual(unmet, None if word in members else 0)

    def test_nothing_changes(self):
        goals = [["holds", [1, 2]], ["like", LOT], ["bears", 1, 0, 0]]
        kept = copy.deepcopy(goals[::2])
        first_unmet(LOT, goals)
        check_goals(EIGHT, goals)
        self.assertEqual(goals[::2], kept)
        self.assertIs(goals[1][1], LOT)


if __name__ == "__main__":
    unittest.main()
