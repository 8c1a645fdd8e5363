"""Point [0.7] and the section errors.py of the interface."""

import inspect
import unittest

from rankwords import errors
from tests.support import Case

LISTED = (
    "BadField(what), BadThing(index), ZeroThing(), BadColumns(), BadWord(index), BadTable(), "
    "BadRow(index), Unlike(), BadText(line), BadPoly(index), NoDivisor(), BadPoints(index), "
    "NotApart(index), NotInvertible(), BadLot(what), BadDistance(), NotMet(), BadHead(), "
    "BadClosed(what), TooMany(size), BadTerms(), NotMember(), BadSizes(what), BadCounts(what), "
    "NoLot(rank), BadErrors(), BadLoss(what), NoClash(), BadCells(index), BadLane(what), "
    "TooSpoilt(lanes), BadComing(), BadDeed(index, what), BadRows(index), NotBehind(), "
    "NoColumn(), NotClosedByThings(), BadNumber(), BadEdit(index, what), BadGoal(index), "
    "Held(index), NothingDone()"
)


def listed_errors():
    """Couples of a class name and the names of its attributes, in their order."""
    for part in LISTED.split("), "):
        name, told = part.rstrip(")").split("(")
        yield name, tuple(told.split(", ")) if told else ()


class ErrorsTest(Case):
    def test_base(self):
        self.assertEqual(errors.RankError.__bases__, (ValueError,))

    def test_all_are_straight_under_the_base(self):
        for name, _ in listed_errors():
            self.assertEqual(getattr(errors, name).__bases__, (errors.RankError,), name)

    def test_attributes_in_their_order_and_unchecked(self):
        values = (object(), "anything")
        for name, attributes in listed_errors():
            error = getattr(errors, name)
            self.assertEqual(tuple(inspect.signature(error).parameters) if attributes else (),
                             attributes, name)
            made = error(*values[:len(attributes)])
            self.assertEqual(vars(made), dict(zip(attributes, values)), name)

    def test_keywords(self):
        for name, attributes in listed_errors():
            made = getattr(errors, name)(**{word: word for word in attributes})
            self.assertEqual(vars(made), {word: word for word in attributes}, name)

    def test_nothing_else_is_listed(self):
        found = {name for name, value in vars(errors).items() if inspect.isclass(value)}
        self.assertEqual(found, {name for name, _ in listed_errors()} | {"RankError"})

    def test_caught_as_value_error(self):
        for name, attributes in listed_errors():
            with self.assertRaises(ValueError):
                raise getattr(errors, name)(*attributes)


if __name__ == "__main__":
    unittest.main()
