"""Lots as texts of several lines, and back."""

from rankwords.fieldtext import check_text, field_text, line_numbers, read_field, word_text
from rankwords.lots import Lot


def lot_text(lot):
    """The text of the field and those of the members, a line each."""
    lines = [word_text(lot.field, member) for member in lot.members]
    return "\n".join([field_text(lot.field)] + lines)


def read_lot(text):
    """The lot of such a text, the members in any order."""
    lines = check_text(text).split("\n")
    field = read_field(lines[0])
    members = [line_numbers(line, index) for index, line in enumerate(lines) if index > 0]
    columns = len(members[0]) if members else 1
    return Lot(field, columns, members)
