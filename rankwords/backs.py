"""Points read back from a closed lot that is a poly lot."""

from rankwords.closed import meet_lots
from rankwords.counting import power_of
from rankwords.errors import BadNumber, NotClosedByThings
from rankwords.joined import stepped_lot
from rankwords.kinds import is_whole
from rankwords.tables import rank_of, scaled_word, stepped_word

_MOST_STEPS = 8


def closed_by_things(closed):
    """Whether each thing times each member is a member."""
    field = closed.field
    # All things are sums of multiples of these, and all members of the words of the basis.
    units = [power_of(field.prime, place) for place in range(field.degree)]
    return all([closed.holds(scaled_word(field, unit, word))
                for word in closed.basis for unit in units])


def meet_of_steps(closed, many):
    """The meet of the lots stepped 0, 1, .. many - 1 times."""
    if not is_whole(many, 1, _MOST_STEPS):
        raise BadNumber()
    meet = closed
    for times in range(1, many):
        meet = meet_lots(meet, stepped_lot(closed, times))
    return meet


def _points_by_steps(closed, terms):
    """The points that begin with 1 of a lot of so many terms, less than columns, or None."""
    field = closed.field
    meet = meet_of_steps(closed, terms)
    if meet.dimension == 0 or rank_of(field, meet.basis[0]) < closed.columns:
        return None
    # If all things of this word are apart, the lot holds it with its steps undone 0, 1, ..
    # terms - 1 times, and these words are just as many as span the lot.
    points = stepped_word(field, meet.basis[0], 1 - terms)
    return scaled_word(field, field.inverse(points[0]), points)


def points_of(closed):
    """The points, 1 first, whose poly lot has just the members of the lot, or None."""
    if not closed_by_things(closed):
        raise NotClosedByThings()
    field = closed.field
    terms = closed.dimension // field.degree
    if terms == 0:
        return None
    if terms == closed.columns:
        return tuple([power_of(field.prime, place) for place in range(closed.columns)])
    return _points_by_steps(closed, terms)
