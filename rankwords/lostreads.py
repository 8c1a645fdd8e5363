"""Reading words back when rows and things are told as lost."""

from rankwords.closed import ClosedLot, check_alike, meet_lots, sum_lots
from rankwords.counting import power_of
from rankwords.divisions import divided_within
from rankwords.losses import rest_rank
from rankwords.nearest import nearest_of
from rankwords.polylots import PolyLot
from rankwords.polywork import value_of
from rankwords.reading import Far, Read, read_word
from rankwords.spacepolys import poly_of_space
from rankwords.spaces import contrary_table, unit_row
from rankwords.tables import check_word, scaled_word, times_table, word_less


def _read_without(polylot, word, losses):
    """The poly of the member and the rest rank of the error, or None; fewer are lost than d."""
    field = polylot.field
    # The losses are taken out: the poly is 0 at the lost things, the table at the lost rows.
    zeros = poly_of_space(field, losses.things)
    table = contrary_table(field.prime, polylot.columns, losses.rows)
    lot = PolyLot(field, times_table(field, polylot.points, table),
                  polylot.terms + len(losses.things))
    left = times_table(field, [value_of(field, zeros, thing) for thing in word], table)
    read = read_word(lot, left)
    if isinstance(read, Far):
        return None
    quotient, rest = divided_within(field, read.poly, zeros)
    if rest:
        return None
    return quotient, read.rank


def read_lost(polylot, word, losses):
    """The Read of the member that fits the word with these losses, or Far(-1)."""
    good = check_word(polylot.field, word, polylot.columns)
    check_alike(polylot, losses)
    if losses.many >= polylot.distance:
        return Far(-1)
    found = _read_without(polylot, good, losses)
    if found is None:
        return Far(-1)
    poly, rank = found
    member = polylot.word_for(poly)
    return Read(poly, member, word_less(polylot.field, good, member), rank)


def nearest_lost(polylot, word, losses):
    """The Nearest of all members of a small poly lot by the rest rank of what is changed."""
    members = tuple(polylot.all_members())
    good = check_word(polylot.field, word, polylot.columns)
    check_alike(polylot, losses)
    return nearest_of(members, [rest_rank(losses, word_less(polylot.field, good, member))
                                for member in members])


def _hidden_lot(losses):
    """The closed lot of all words that the losses hide."""
    field, columns = losses.field, losses.columns
    units = [power_of(field.prime, place) for place in range(field.degree)]
    # The digits of a row are things, so the row itself is a word.
    by_rows = [scaled_word(field, unit, row) for row in losses.rows for unit in units]
    by_things = [scaled_word(field, thing, unit_row(columns, place))
                 for thing in losses.things for place in range(columns)]
    return sum_lots(ClosedLot(field, columns, by_rows), ClosedLot(field, columns, by_things))


def hidden_couple(polylot, losses):
    """Two unlike members whose difference the losses hide, or None."""
    # This refuses losses of another field or of other columns, too.
    hidden = meet_lots(polylot.as_closed(), _hidden_lot(losses))
    if hidden.dimension == 0:
        return None
    return (0,) * polylot.columns, hidden.basis[0]
