"""The losses of whole rows and columns of a table."""

from rankwords.counting import power_of
from rankwords.errors import BadLane
from rankwords.kinds import first_beyond, is_sequence
from rankwords.losses import Losses
from rankwords.spaces import unit_row

_MOST_LANES = 16


def _are_lanes(numbers, limit):
    if not is_sequence(numbers) or len(numbers) > _MOST_LANES:
        return False
    return first_beyond(numbers, limit) is None


def lane_losses(field, columns, rows, places):
    """The Losses of the rows and of the columns of the table with these numbers."""
    if not _are_lanes(rows, field.degree):
        raise BadLane("rows")
    if not _are_lanes(places, columns):
        raise BadLane("places")
    return Losses(field, columns, [unit_row(columns, place) for place in places],
                  [power_of(field.prime, row) for row in rows])
