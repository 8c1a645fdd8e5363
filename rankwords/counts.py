"""How many members of a lot have each rank, and how many couples each distance."""

from rankwords.closed import rest_lot
from rankwords.restcounts import rest_counts
from rankwords.tables import rank_of, word_less

_MOST_MEMBERS = 256


def counts_of(lot):
    """How many members of a Lot have each rank."""
    counts = [0] * (lot.columns + 1)
    for word in lot.members:
        counts[rank_of(lot.field, word)] += 1
    return tuple(counts)


def couple_counts(lot):
    """How many ordered couples of members of a Lot have each distance."""
    counts = [lot.size] + [0] * lot.columns
    # Many couples of a lot have one and the same difference.
    ranks = {}
    for place, one in enumerate(lot.members):
        for other in lot.members[:place]:
            less = word_less(lot.field, one, other)
            if less not in ranks:
                ranks[less] = rank_of(lot.field, less)
            counts[ranks[less]] += 2
    return tuple(counts)


def least_members(lot):
    """The members of the least rank above 0 that a member of a Lot has, ascending."""
    ranked = [(rank_of(lot.field, word), word) for word in lot.members if any(word)]
    least = min([rank for rank, _ in ranked], default=0)
    return tuple([word for rank, word in ranked if rank == least])


def rank_counts(closed):
    """How many members of a ClosedLot of any size have each rank."""
    if closed.size <= _MOST_MEMBERS:
        return counts_of(closed.as_lot())
    # There are at most 256 * 256 words, so the rest lot of a greater lot can be gone through.
    rest = rest_lot(closed)
    field = closed.field
    return rest_counts(field.prime, field.degree, closed.columns, rest.size,
                       counts_of(rest.as_lot()))
