"""Closed lots, which hold the sum of any two members."""

from rankwords.counting import power_of
from rankwords.errors import BadClosed, BadColumns, BadWord, TooMany, Unlike
from rankwords.fields import check_columns
from rankwords.kinds import is_sequence
from rankwords.lots import Lot
from rankwords.spaces import basis_of, contrary, lies_within, meet_spaces, rows_of_space, sum_spaces
from rankwords.tables import check_word, digits_of_word, word_of_digits

_MOST_WORDS = 16
_MOST_MEMBERS = 256


def _closed_columns(field, columns):
    try:
        return check_columns(field, columns)
    except BadColumns:
        raise BadClosed("columns") from None


def _closed_word(field, columns, word):
    try:
        return check_word(field, word, columns)
    except BadWord:
        raise BadClosed("word") from None


def _closed_words(field, columns, words):
    if not is_sequence(words) or len(words) > _MOST_WORDS:
        raise BadClosed("many")
    return [_closed_word(field, columns, word) for word in words]


def _flat_rows(field, words):
    return tuple([digits_of_word(field, word) for word in words])


def _words_of_rows(field, rows):
    return tuple([word_of_digits(field, row) for row in rows])


class ClosedLot:
    """The least closed lot that holds some words, told by the basis of its flat rows."""

    def __init__(self, field, columns, words):
        self.field = field
        self.columns = _closed_columns(field, columns)
        rows = _flat_rows(field, _closed_words(field, columns, words))
        self.basis = _words_of_rows(field, basis_of(field.prime, rows))
        self.dimension = len(self.basis)
        self.size = power_of(field.prime, self.dimension)

    def __eq__(self, other):
        return (isinstance(other, ClosedLot) and self.field == other.field
                and self.columns == other.columns and self.basis == other.basis)

    def holds(self, word):
        """Whether the word is a member."""
        row = digits_of_word(self.field, check_word(self.field, word, self.columns))
        return lies_within(self.field.prime, _flat_rows(self.field, self.basis), row)

    def all_members(self):
        """Yields the members, if they are at most 256, in ascending order."""
        for word in _members_of(self):
            yield word

    def as_lot(self):
        """The Lot of the members, if they are at most 256."""
        return Lot(self.field, self.columns, _members_of(self))


def _width_of(lot):
    return lot.columns * lot.field.degree


def _members_of(lot):
    if lot.size > _MOST_MEMBERS:
        raise TooMany(lot.size)
    rows = rows_of_space(lot.field.prime, _width_of(lot), _flat_rows(lot.field, lot.basis))
    # The order of the flat rows is not that of the words: a thing's lowest digit is its first.
    return sorted(_words_of_rows(lot.field, rows))


def _lot_of_rows(lot, rows):
    return ClosedLot(lot.field, lot.columns, _words_of_rows(lot.field, rows))


def check_alike(one, other):
    """Unlike unless both have one field and one number of columns."""
    if one.field != other.field or one.columns != other.columns:
        raise Unlike()


def sum_lots(one, other):
    """The least closed lot that holds both."""
    check_alike(one, other)
    rows = sum_spaces(one.field.prime, _width_of(one),
                      _flat_rows(one.field, one.basis), _flat_rows(one.field, other.basis))
    return _lot_of_rows(one, rows)


def meet_lots(one, other):
    """The closed lot of the common members."""
    check_alike(one, other)
    rows = meet_spaces(one.field.prime, _width_of(one),
                       _flat_rows(one.field, one.basis), _flat_rows(one.field, other.basis))
    return _lot_of_rows(one, rows)


def rest_lot(lot):
    """The closed lot of the words whose flat rows are contrary to those of all members."""
    rows = contrary(lot.field.prime, _width_of(lot), _flat_rows(lot.field, lot.basis))
    return _lot_of_rows(lot, rows)
