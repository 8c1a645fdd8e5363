"""Goals, which poly lots meet or do not."""

from rankwords.errors import BadGoal, BadWord
from rankwords.kinds import is_sequence, is_whole
from rankwords.likes import same_lot
from rankwords.polylots import PolyLot
from rankwords.tables import check_word

_MOST_GOALS = 10
_MOST_SIZE = 1000000000


def _is_word(field, word):
    try:
        check_word(field, word)
    except BadWord:
        return False
    return True


def _is_goal(field, goal):
    if not is_sequence(goal) or not goal:
        return False
    word = goal[0]
    if word == "bears":
        return len(goal) == 4 and all([is_whole(number, 0, field.degree) for number in goal[1:]])
    if len(goal) != 2:
        return False
    what = goal[1]
    if word == "size":
        return is_whole(what, 0, _MOST_SIZE)
    if word == "distance":
        return is_whole(what, 1, field.degree + 1)
    if word == "holds":
        return _is_word(field, what)
    return word == "like" and isinstance(what, PolyLot) and what.field == field


def _kept_goal(goal):
    """A goal that is checked, with a tuple in place of a list throughout."""
    if goal[0] == "holds":
        return "holds", tuple(goal[1])
    return tuple(goal)


def check_goals(field, goals):
    """At most 10 goals, as a tuple of tuples."""
    if not is_sequence(goals) or len(goals) > _MOST_GOALS:
        raise BadGoal(0)
    for index, goal in enumerate(goals):
        if not _is_goal(field, goal):
            raise BadGoal(index)
    return tuple([_kept_goal(goal) for goal in goals])


def _is_met(polylot, goal):
    """Whether a poly lot meets a goal that is checked."""
    word, what = goal[0], goal[1]
    if word == "bears":
        return 2 * what + goal[2] + goal[3] < polylot.distance
    if word == "size":
        return polylot.size >= what
    if word == "distance":
        return polylot.distance >= what
    if word == "holds":
        return len(what) == polylot.columns and polylot.holds(what)
    return same_lot(polylot, what)


def first_unmet(polylot, goals):
    """The index of the first goal that the poly lot does not meet, or None."""
    for index, goal in enumerate(check_goals(polylot.field, goals)):
        if not _is_met(polylot, goal):
            return index
    return None
