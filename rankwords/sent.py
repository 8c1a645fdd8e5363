"""Reading what was sent from the packets that arrive."""

from rankwords.losses import rest_rank
from rankwords.lostreads import read_lost
from rankwords.nearest import nearest_of
from rankwords.received import received_form
from rankwords.tables import word_less


def read_rows(polylot, rows):
    """The Read of the member whose sent space is near to the space of the rows, or Far(-1)."""
    form = received_form(polylot.field, polylot.columns, rows)
    return read_lost(polylot, form.word, form.losses)


def nearest_sent(lot, rows):
    """The least distance of a sent space to the space of the rows, and the members that have it."""
    form = received_form(lot.field, lot.columns, rows)
    ranks = [rest_rank(form.losses, word_less(lot.field, form.word, member))
             for member in lot.members]
    nearest = nearest_of(lot.members, ranks)
    # Each rest rank counts twice, as something is missing and something foreign in its place.
    return 2 * nearest.rank + form.losses.many, nearest.members
