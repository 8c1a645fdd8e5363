"""Words and losses that two members fit alike."""

from rankwords.errors import BadWord, NoClash
from rankwords.kinds import is_count
from rankwords.losses import Losses, rest_rank
from rankwords.spacepolys import poly_of_space
from rankwords.spaces import unit_row
from rankwords.tables import check_word, word_less


class Clash:
    """Two members, and a word and losses that both of them fit alike."""

    def __init__(self, one, other, word, losses):
        self.one = one
        self.other = other
        self.word = word
        self.losses = losses

    def __eq__(self, other):
        return (isinstance(other, Clash) and self.one == other.one and self.other == other.other
                and self.word == other.word and self.losses == other.losses)


def _check_numbers(polylot, rows, things, errors):
    if not is_count(rows) or not is_count(things) or not is_count(errors):
        raise NoClash()
    if 2 * errors + rows + things != polylot.distance:
        raise NoClash()


def find_clash(polylot, rows, things, errors):
    """A Clash with losses of so many rows and things and so many errors besides for both members."""
    _check_numbers(polylot, rows, things, errors)
    field, columns = polylot.field, polylot.columns
    # This member is 0 but in the last columns, as many as the distance, and things there are apart.
    zeros = polylot.terms - 1
    member = polylot.word_for(poly_of_space(field, polylot.points[:zeros]))
    lost_rows = [unit_row(columns, zeros + place) for place in range(rows)]
    lost_things = member[zeros + rows:zeros + rows + things]
    # Of the columns that are not lost, one half differs from each of the two members.
    same = zeros + rows + things + errors
    word = member[:same] + (0,) * (columns - same)
    return Clash((0,) * columns, member, word, Losses(field, columns, lost_rows, lost_things))


def _word_or_none(polylot, word):
    try:
        return check_word(polylot.field, word, polylot.columns)
    except BadWord:
        return None


def _fits_losses(polylot, rows, things, losses):
    if not isinstance(losses, Losses):
        return False
    if losses.field != polylot.field or losses.columns != polylot.columns:
        return False
    return len(losses.rows) == rows and len(losses.things) == things


def clash_fault(polylot, rows, things, errors, clash):
    """Why a Clash is not right, or None."""
    _check_numbers(polylot, rows, things, errors)
    one = _word_or_none(polylot, clash.one)
    if one is None or not polylot.holds(one):
        return "one"
    other = _word_or_none(polylot, clash.other)
    if other is None or not polylot.holds(other) or other == one:
        return "other"
    if not _fits_losses(polylot, rows, things, clash.losses):
        return "losses"
    word = _word_or_none(polylot, clash.word)
    if word is None:
        return "word"
    for member in (one, other):
        if rest_rank(clash.losses, word_less(polylot.field, word, member)) != errors:
            return "word"
    return None
