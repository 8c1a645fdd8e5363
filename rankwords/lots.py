"""Lots of words, and how near their members lie."""

from rankwords.errors import BadColumns, BadLot, BadWord
from rankwords.fields import check_columns
from rankwords.kinds import is_sequence
from rankwords.tables import check_word, rank_of, word_less

_MOST_MEMBERS = 256


def _lot_columns(field, columns):
    try:
        return check_columns(field, columns)
    except BadColumns:
        raise BadLot("columns") from None


def _lot_word(field, columns, word):
    try:
        return check_word(field, word, columns)
    except BadWord:
        raise BadLot("word") from None


def _lot_members(field, columns, members):
    if not is_sequence(members) or not members:
        raise BadLot("none")
    if len(members) > _MOST_MEMBERS:
        raise BadLot("many")
    words = [_lot_word(field, columns, word) for word in members]
    return tuple(sorted(set(words)))


class Lot:
    """A set of 1 to 256 words of one number of columns, in ascending order."""

    def __init__(self, field, columns, members):
        self.field = field
        self.columns = _lot_columns(field, columns)
        self.members = _lot_members(field, columns, members)
        self.size = len(self.members)

    def __eq__(self, other):
        return (isinstance(other, Lot) and self.field == other.field
                and self.columns == other.columns and self.members == other.members)

    def __len__(self):
        return len(self.members)

    def __iter__(self):
        return iter(self.members)

    def holds(self, word):
        """Whether the word is a member."""
        return check_word(self.field, word, self.columns) in self.members

    def all_members(self):
        """Yields the members in ascending order."""
        for word in self.members:
            yield word


class Apart:
    """The least distance of two members of a lot, and the first couple that has it."""

    def __init__(self, distance, couple):
        self.distance = distance
        self.couple = couple

    def __eq__(self, other):
        return (isinstance(other, Apart) and self.distance == other.distance
                and self.couple == other.couple)


def distance_of(lot):
    """The least distance of two members, as an Apart."""
    least, couple = lot.columns + 1, None
    # Many couples of a lot have one and the same difference.
    ranks = {}
    for place, one in enumerate(lot.members):
        for other in lot.members[place + 1:]:
            less = word_less(lot.field, other, one)
            if less not in ranks:
                ranks[less] = rank_of(lot.field, less)
            if ranks[less] < least:
                least, couple = ranks[less], (one, other)
                if least == 1:
                    return Apart(least, couple)
    return Apart(least, couple)
