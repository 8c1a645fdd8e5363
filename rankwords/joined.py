"""Closed lots put side by side, struck, shortened, mixed and stepped."""

from rankwords.closed import ClosedLot
from rankwords.errors import BadTable, NoColumn, NotInvertible, Unlike
from rankwords.kinds import first_beyond, is_sequence, is_whole
from rankwords.spaces import basis_of
from rankwords.tables import stepped_word, times_table


def check_column(lot, column):
    """NoColumn unless the lot has this column and another one."""
    if lot.columns == 1 or not is_whole(column, 0, lot.columns - 1):
        raise NoColumn()


def is_square(prime, size, table):
    """Whether a table has so many rows of so many digits."""
    if not is_sequence(table) or len(table) != size:
        return False
    return all([is_sequence(row) and len(row) == size and first_beyond(row, prime) is None
                for row in table])


def is_invertible(prime, table):
    """Whether the rows of a table of digits are independent."""
    return len(basis_of(prime, table)) == len(table)


def check_mixing(lot, table):
    """BadTable or NotInvertible unless the table can mix the columns of the lot and be undone."""
    if not is_square(lot.field.prime, lot.columns, table):
        raise BadTable()
    if not is_invertible(lot.field.prime, table):
        raise NotInvertible()


def without_column(items, column):
    """The items of a tuple but for the one at this place."""
    return items[:column] + items[column + 1:]


def side_by_side(one, other):
    """The lot of all words that begin with a member of one and go on with a member of the other."""
    if one.field != other.field:
        raise Unlike()
    columns = one.columns + other.columns
    if columns > one.field.degree:
        raise NoColumn()
    words = [word + (0,) * other.columns for word in one.basis]
    words.extend([(0,) * one.columns + word for word in other.basis])
    return ClosedLot(one.field, columns, words)


def struck(closed, column):
    """The lot of all members with this column left out."""
    check_column(closed, column)
    words = [without_column(word, column) for word in closed.basis]
    return ClosedLot(closed.field, closed.columns - 1, words)


def shortened(closed, column):
    """The lot of the members that have 0 at this column, with the column left out."""
    check_column(closed, column)
    # With the column ahead of the others, the echelon basis has its own rows for these members.
    words = [(word[column],) + without_column(word, column) for word in closed.basis]
    moved = ClosedLot(closed.field, closed.columns, words)
    return ClosedLot(closed.field, closed.columns - 1,
                     [word[1:] for word in moved.basis if word[0] == 0])


def mixed(closed, table):
    """The lot of all members times an invertible table."""
    check_mixing(closed, table)
    return ClosedLot(closed.field, closed.columns,
                     [times_table(closed.field, word, table) for word in closed.basis])


def stepped_lot(closed, times):
    """The lot of all members with each thing stepped so many times."""
    return ClosedLot(closed.field, closed.columns,
                     [stepped_word(closed.field, word, times) for word in closed.basis])
