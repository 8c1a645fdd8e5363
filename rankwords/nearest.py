"""The members of a small lot that are nearest to a word, and how far words lie from lots."""

from rankwords.counting import power_of
from rankwords.errors import BadErrors, TooMany
from rankwords.kinds import is_whole
from rankwords.tables import check_word, rank_distance, rank_of, stepped_word, word_less

_MOST_WORDS = 729


class Nearest:
    """The least rank by which a word differs from a member, and the members where it does so."""

    def __init__(self, rank, members):
        self.rank = rank
        self.members = members

    def __eq__(self, other):
        return (isinstance(other, Nearest) and self.rank == other.rank
                and self.members == other.members)


def nearest_of(members, ranks):
    """The Nearest of members whose ranks are given in the same order."""
    least = min(ranks)
    return Nearest(least, tuple([word for word, rank in zip(members, ranks) if rank == least]))


def _ranked(lot, word):
    """The members of a lot and their distances to a word, both in ascending order of members."""
    members = tuple(lot.all_members())
    good = check_word(lot.field, word, lot.columns)
    return members, [rank_distance(lot.field, good, member) for member in members]


def nearest_members(lot, word):
    """The Nearest of all members of a small lot of any kind."""
    members, ranks = _ranked(lot, word)
    return nearest_of(members, ranks)


def members_around(lot, word, rank):
    """All members of a small lot at a distance of at most so much, ascending."""
    members, ranks = _ranked(lot, word)
    if not is_whole(rank, 0, lot.columns):
        raise BadErrors()
    return tuple([member for member, far in zip(members, ranks) if far <= rank])


def _all_words(field, columns):
    words = [()]
    for _ in range(columns):
        words = [word + (thing,) for word in words for thing in range(field.size)]
    return words


def reach_row(lot):
    """How many of all words have each least distance to the members of a small lot."""
    members = tuple(lot.all_members())
    field = lot.field
    many = power_of(field.size, lot.columns)
    if many > _MOST_WORDS:
        raise TooMany(many)
    ranks = {word: rank_of(field, word) for word in _all_words(field, lot.columns)}
    row = [0] * (lot.columns + 1)
    for word in list(ranks):
        row[min([ranks[word_less(field, word, member)] for member in members])] += 1
    return tuple(row)


def far_word(polylot):
    """A word as far as words can lie from the members of a poly lot."""
    if polylot.terms == polylot.columns:
        return (0,) * polylot.columns
    return stepped_word(polylot.field, polylot.points, polylot.terms)
