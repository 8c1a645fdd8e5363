"""The bound for the members of a lot, and the heads of its members."""

from rankwords.counting import power_of
from rankwords.errors import BadDistance, BadHead, NotMet
from rankwords.kinds import first_beyond, is_sequence, is_whole
from rankwords.lots import distance_of


def _head_length(columns, distance):
    if not is_whole(distance, 1, columns + 1):
        raise BadDistance()
    return columns - distance + 1


def bound_of(field, columns, distance):
    """The most members that a lot of this distance may have."""
    return power_of(field.size, _head_length(columns, distance))


def crowded_couple(lot, distance):
    """The first couple of members that have one head for this distance, or None."""
    length = _head_length(lot.columns, distance)
    # Members with one head stand side by side in the ascending order.
    for one, other in zip(lot.members, lot.members[1:]):
        if one[:length] == other[:length]:
            return one, other
    return None


def is_met(lot):
    """Whether the lot has as many members as the bound for its own distance."""
    return lot.size == bound_of(lot.field, lot.columns, distance_of(lot).distance)


def _is_head(field, length, head):
    return is_sequence(head) and len(head) == length and first_beyond(head, field.size) is None


def member_with_head(lot, head):
    """The only member of a met lot with this head for the lot's own distance."""
    length = _head_length(lot.columns, distance_of(lot).distance)
    if lot.size != power_of(lot.field.size, length):
        raise NotMet()
    if not _is_head(lot.field, length, head):
        raise BadHead()
    members = {word[:length]: word for word in lot.members}
    return members[tuple(head)]
