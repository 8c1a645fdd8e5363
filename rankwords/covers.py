"""Cells of tables, and the fewest rows and columns that hold them."""

from rankwords.counting import power_of
from rankwords.errors import BadCells
from rankwords.kinds import is_sequence, is_whole

_MOST_CELLS = 64


class Cover:
    """Rows and columns that hold cells, and as many of the cells that are apart."""

    def __init__(self, rows, columns, apart):
        self.rows = rows
        self.columns = columns
        self.apart = apart

    def __eq__(self, other):
        return (isinstance(other, Cover) and self.rows == other.rows
                and self.columns == other.columns and self.apart == other.apart)


def is_cell(field, columns, row, column):
    """Whether the table of words of so many columns has this row and this column."""
    return is_whole(row, 0, field.degree - 1) and is_whole(column, 0, columns - 1)


def check_cells(field, columns, cells):
    """The unlike cells, ascending; BadCells if there are too many or one is none."""
    if not is_sequence(cells) or len(cells) > _MOST_CELLS:
        raise BadCells(-1)
    for index, cell in enumerate(cells):
        if not is_sequence(cell) or len(cell) != 2 or not is_cell(field, columns, cell[0], cell[1]):
            raise BadCells(index)
    return tuple(sorted(set([tuple(cell) for cell in cells])))


def _finds_column(cells, row, taken, tried):
    """Whether a column can be found for the row, other rows perhaps taking other columns.

    taken leads each column to the row that has it. tried gets all columns that were looked at.
    """
    for other, column in cells:
        if other == row and column not in tried:
            tried[column] = True
            if column not in taken or _finds_column(cells, taken[column], taken, tried):
                taken[column] = row
                return True
    return False


def lane_cover(field, columns, cells):
    """The Cover of the cells by fewest lanes."""
    good = check_cells(field, columns, cells)
    taken, left = {}, []
    for row in range(field.degree):
        if not _finds_column(good, row, taken, {}):
            left.append(row)
    tried = {}
    for row in left:
        _finds_column(good, row, taken, tried)
    # The columns that were tried in vain hold all cells of the rows that are left, and all of the
    # rows that have one of these columns. The other rows with a column hold what remains.
    rows = [row for column, row in taken.items() if column not in tried]
    apart = [(row, column) for column, row in taken.items()]
    return Cover(tuple(sorted(rows)), tuple(sorted(tried)), tuple(sorted(apart)))


def _are_apart(cells):
    rows = [row for row, _ in cells]
    columns = [column for _, column in cells]
    return len(set(rows)) == len(cells) and len(set(columns)) == len(cells)


def cover_fault(field, columns, cells, cover):
    """Why a Cover of the cells is not right, or None."""
    good = check_cells(field, columns, cells)
    for row, column in good:
        if row not in cover.rows and column not in cover.columns:
            return "hold"
    apart = [tuple(cell) for cell in cover.apart]
    if not all([cell in good for cell in apart]) or not _are_apart(apart):
        return "apart"
    if len(apart) != len(cover.rows) + len(cover.columns):
        return "many"
    return None


def worst_change(field, columns, cells):
    """A word that is 0 outside the cells and of the greatest rank that such a word has."""
    word = [0] * columns
    for row, column in lane_cover(field, columns, cells).apart:
        word[column] = power_of(field.prime, row)
    return tuple(word)
