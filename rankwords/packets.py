"""Packets: rows of digits that have a front of places and, behind it, a thing as their end."""

from rankwords.errors import BadRow, BadRows
from rankwords.fields import check_columns
from rankwords.kinds import is_sequence
from rankwords.spaces import basis_of, checked_rows, unit_row
from rankwords.tables import check_word

_MOST_ROWS = 16


def check_rows(field, columns, rows):
    """At most 16 packets, as a tuple of tuples."""
    width = check_columns(field, columns) + field.degree
    if not is_sequence(rows) or len(rows) > _MOST_ROWS:
        raise BadRows(-1)
    try:
        return tuple(checked_rows(field.prime, width, rows))
    except BadRow as refused:
        raise BadRows(refused.index) from None


def packets_of(field, word):
    """The packets of a word: the place of each thing, told by a unit row, and the thing."""
    good = check_word(field, word)
    return tuple([unit_row(len(good), place) + field.digits_of(thing)
                  for place, thing in enumerate(good)])


def rows_distance(field, columns, one, other):
    """By how many dimensions the spaces of two lots of packets differ."""
    first = check_rows(field, columns, one)
    second = check_rows(field, columns, other)
    apart = len(basis_of(field.prime, first)) + len(basis_of(field.prime, second))
    return 2 * len(basis_of(field.prime, first + second)) - apart
