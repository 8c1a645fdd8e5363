"""Sets of edits behind which goals are met, or are met no longer."""

from rankwords.edits import check_edits, made_edit
from rankwords.errors import TooMany
from rankwords.goals import check_goals, first_unmet

_MOST_POOL = 6


def _lots_behind(polylot, pool):
    """The poly lot behind each set of edits that can be made.

    A set is the ascending tuple of its indexes; shorter ones come first, equally long ones ascend.
    """
    found = {(): polylot}
    level = [()]
    for _ in range(len(pool)):
        wider = []
        # A copy is walked, because `level` and `wider` come to name one list below.
        for indexes in list(level):
            start = indexes[-1] + 1 if indexes else 0
            for index in range(start, len(pool)):
                # What cannot be made cannot be made with further edits behind it, either.
                behind = made_edit(found[indexes], pool[index])
                if behind is not None:
                    found[indexes + (index,)] = behind
                    wider.append(indexes + (index,))
        level = wider
    return found


def _holds_one(indexes, sets):
    """Whether the set of indexes holds all members of one of the sets."""
    return any([all([index in indexes for index in one]) for one in sets])


def _least_sets(polylot, pool, goals, met):
    """The sets of edits behind which all goals are met, or not, that hold no smaller such set."""
    good_pool = check_edits(polylot.field, pool)
    if len(good_pool) > _MOST_POOL:
        raise TooMany(len(good_pool))
    good_goals = check_goals(polylot.field, goals)
    found = []
    for indexes, behind in _lots_behind(polylot, good_pool).items():
        if (first_unmet(behind, good_goals) is None) == met and not _holds_one(indexes, found):
            found.append(indexes)
    return tuple(found)


def find_mends(polylot, pool, goals):
    """The least sets of edits of the pool behind which all goals are met."""
    return _least_sets(polylot, pool, goals, True)


def find_spoilers(polylot, pool, goals):
    """The least sets of edits of the pool behind which some goal is not met."""
    return _least_sets(polylot, pool, goals, False)
