"""Lost rows and lost things, which tell where an error may lie besides its unknown part."""

from rankwords.closed import check_alike
from rankwords.counting import power_of, table_count
from rankwords.errors import BadColumns, BadLoss, BadRow, BadThing, BadWord
from rankwords.fields import check_columns
from rankwords.kinds import is_sequence
from rankwords.spaces import echelon, left_of, lies_within, things_space
from rankwords.tables import (check_word, rank_of, rows_space, table_of, word_less, word_of_table,
                              word_sum)

_MOST_ROWS = 16


def _loss_columns(field, columns):
    try:
        return check_columns(field, columns)
    except BadColumns:
        raise BadLoss("columns") from None


def _loss_rows(field, columns, rows):
    if not is_sequence(rows) or len(rows) > _MOST_ROWS:
        raise BadLoss("rows")
    try:
        return echelon(field.prime, columns, rows)
    except BadRow:
        raise BadLoss("rows") from None


def _loss_things(field, things):
    try:
        return things_space(field, things)
    except BadThing:
        raise BadLoss("things") from None


class Losses:
    """A space of lost rows and a space of lost things, told by their echelon bases."""

    def __init__(self, field, columns, rows, things):
        self.field = field
        self.columns = _loss_columns(field, columns)
        self.rows = _loss_rows(field, columns, rows)
        self.things = _loss_things(field, things)

    def __eq__(self, other):
        return (isinstance(other, Losses) and self.field == other.field
                and self.columns == other.columns and self.rows == other.rows
                and self.things == other.things)

    @property
    def many(self):
        """How many dimensions are lost."""
        return len(self.rows) + len(self.things)


def _less_rows(losses, word):
    """The word less one whose rows are lost; the same for words that differ by such a one."""
    field = losses.field
    return word_of_table(field, [left_of(field.prime, losses.rows, row)
                                 for row in table_of(field, word)])


def _digits_of_things(losses):
    return [losses.field.digits_of(thing) for thing in losses.things]


def _less_things(losses, word):
    """The word less one whose things are lost; the same for words that differ by such a one."""
    field = losses.field
    basis = _digits_of_things(losses)
    return tuple([field.thing_of(left_of(field.prime, basis, field.digits_of(thing)))
                  for thing in word])


def rest_rank(losses, word):
    """The least rank that the word less a hidden word can have."""
    good = check_word(losses.field, word, losses.columns)
    # Both steps are linear and raise no rank, and together they lead just the hidden words to 0.
    return rank_of(losses.field, _less_things(losses, _less_rows(losses, good)))


def rest_rank_count(losses, rank):
    """How many of all words have this rest rank."""
    if rank < 0 or rank > losses.columns:
        return 0
    prime, tall, wide = losses.field.prime, losses.field.degree, losses.columns
    rows, things = len(losses.rows), len(losses.things)
    hidden = power_of(prime, tall * rows + wide * things - rows * things)
    return hidden * table_count(prime, tall - things, wide - rows, rank)


def parts_of(losses, error):
    """A word of lost rows, a word of lost things and one of the rest rank that sum to the error."""
    field = losses.field
    good = check_word(field, error, losses.columns)
    without_rows = _less_rows(losses, good)
    rest = _less_things(losses, without_rows)
    return word_less(field, good, without_rows), word_less(field, without_rows, rest), rest


def _checked_parts(losses, parts):
    """The three parts as words, or None if they are none."""
    if not is_sequence(parts) or len(parts) != 3:
        return None
    try:
        return [check_word(losses.field, part, losses.columns) for part in parts]
    except BadWord:
        return None


def _has_lost_rows(losses, word):
    prime = losses.field.prime
    return all([lies_within(prime, losses.rows, row) for row in rows_space(losses.field, word)])


def _has_lost_things(losses, word):
    field = losses.field
    basis = _digits_of_things(losses)
    return all([lies_within(field.prime, basis, field.digits_of(thing)) for thing in word])


def parts_fault(losses, error, parts):
    """Why parts of an error are not right, or None."""
    field = losses.field
    good = check_word(field, error, losses.columns)
    words = _checked_parts(losses, parts)
    if words is None or word_sum(field, word_sum(field, words[0], words[1]), words[2]) != good:
        return "sum"
    if not _has_lost_rows(losses, words[0]):
        return "rows"
    if not _has_lost_things(losses, words[1]):
        return "things"
    if rank_of(field, words[2]) != rest_rank(losses, good):
        return "rest"
    return None


def joined_losses(one, other):
    """The losses of the sums of both spaces."""
    check_alike(one, other)
    return Losses(one.field, one.columns, one.rows + other.rows, one.things + other.things)
