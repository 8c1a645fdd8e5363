"""Edits, which make one poly lot of another."""

from rankwords.errors import BadEdit, BadPoints, BadTable, BadTerms, NoColumn, NotApart
from rankwords.joined import is_invertible, is_square
from rankwords.kinds import is_sequence, is_whole
from rankwords.likes import mixed_points, stepped_points, struck_points
from rankwords.polylots import PolyLot

_MOST_EDITS = 30


def _is_mixing(field, table):
    if not is_sequence(table) or not 1 <= len(table) <= field.degree:
        return False
    return is_square(field.prime, len(table), table) and is_invertible(field.prime, table)


def _is_edit(field, edit):
    if not is_sequence(edit) or len(edit) != 2:
        return False
    word, what = edit
    if word == "point":
        return is_whole(what, 0, field.size - 1)
    if word == "strike" or word == "step":
        return is_whole(what, 0, field.degree - 1)
    if word == "terms":
        return is_whole(what, 1, field.degree)
    return word == "mix" and _is_mixing(field, what)


def _kept_edit(edit):
    """An edit that is checked, with tuples in place of lists throughout."""
    word, what = edit
    if word == "mix":
        return word, tuple([tuple(row) for row in what])
    return word, what


def check_edits(field, edits):
    """At most 30 edits, as a tuple of couples."""
    if not is_sequence(edits) or len(edits) > _MOST_EDITS:
        raise BadEdit(0, "form")
    for index, edit in enumerate(edits):
        if not _is_edit(field, edit):
            raise BadEdit(index, "form")
    return tuple([_kept_edit(edit) for edit in edits])


def _made(polylot, edit):
    word, what = edit
    if word == "point":
        return PolyLot(polylot.field, polylot.points + (what,), polylot.terms)
    if word == "strike":
        return struck_points(polylot, what)
    if word == "terms":
        return PolyLot(polylot.field, polylot.points, what)
    if word == "mix":
        return mixed_points(polylot, what)
    return stepped_points(polylot, what)


def made_edit(polylot, edit):
    """The poly lot behind an edit that is checked, or None if it cannot be made."""
    try:
        return _made(polylot, edit)
    except (BadPoints, NotApart, NoColumn, BadTerms, BadTable):
        return None


def lot_after(polylot, edits):
    """The poly lot behind edits that are made one after another."""
    behind = polylot
    for index, edit in enumerate(check_edits(polylot.field, edits)):
        behind = made_edit(behind, edit)
        if behind is None:
            raise BadEdit(index, "now")
    return behind
