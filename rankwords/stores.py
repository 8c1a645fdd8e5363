"""Stores, which keep a word as a table whose digits may be spoilt."""

from rankwords.covers import is_cell, lane_cover
from rankwords.errors import BadCells, TooSpoilt
from rankwords.kinds import is_sequence, is_whole
from rankwords.lanes import lane_losses
from rankwords.lostreads import read_lost
from rankwords.reading import Far, read_word
from rankwords.tables import table_of, word_of_table

_MOST_DEEDS = 64


def _is_deed(polylot, deed):
    if not is_sequence(deed) or len(deed) != 3:
        return False
    field = polylot.field
    return is_cell(field, polylot.columns, deed[0], deed[1]) and is_whole(deed[2], 0, field.prime - 1)


def _check_deeds(polylot, deeds):
    if not is_sequence(deeds) or len(deeds) > _MOST_DEEDS:
        raise BadCells(-1)
    for index, deed in enumerate(deeds):
        if not _is_deed(polylot, deed):
            raise BadCells(index)


def _unlike_cells(field, one, other):
    """The cells in which the tables of two words differ, ascending."""
    tables = list(zip(table_of(field, one), table_of(field, other)))
    return tuple([(row, column) for row, (first, second) in enumerate(tables)
                  for column in range(len(one)) if first[column] != second[column]])


class Store:
    """A table that shows a member of a poly lot until its digits are spoilt."""

    def __init__(self, polylot):
        self.polylot = polylot
        self._written = ()
        self._shown = polylot.word_for(())

    @property
    def written(self):
        """The poly that was written or mended last."""
        return self._written

    @property
    def shown(self):
        """The word that the table shows now."""
        return self._shown

    def write(self, poly):
        """Puts the member of the poly into the table."""
        self._shown = self.polylot.word_for(poly)
        self._written = tuple(poly)

    def spoil(self, deeds):
        """Puts digits into cells, deed by deed (row, column, digit)."""
        _check_deeds(self.polylot, deeds)
        table = [list(row) for row in table_of(self.polylot.field, self._shown)]
        for row, column, digit in deeds:
            table[row][column] = digit
        self._shown = word_of_table(self.polylot.field, table)

    def spoilt_cells(self):
        """The cells that show another digit than was written, ascending."""
        word = self.polylot.word_for(self._written)
        return _unlike_cells(self.polylot.field, self._shown, word)

    def _told(self, rows, places):
        return lane_losses(self.polylot.field, self.polylot.columns, rows, places)

    def spoilt_lanes(self, rows=(), places=()):
        """The fewest lanes that hold the spoilt cells which lie in no told lane."""
        self._told(rows, places)
        cells = [cell for cell in self.spoilt_cells()
                 if cell[0] not in rows and cell[1] not in places]
        cover = lane_cover(self.polylot.field, self.polylot.columns, cells)
        return len(cover.apart)

    def read_plain(self):
        """What read_word finds in the shown word."""
        return read_word(self.polylot, self._shown)

    def read_known(self, rows, places):
        """What read_lost finds in the shown word, with the told lanes lost."""
        return read_lost(self.polylot, self._shown, self._told(rows, places))

    def mend(self, rows=(), places=()):
        """Puts the member that is read into the table; returns how many cells were changed."""
        read = self.read_known(rows, places)
        if isinstance(read, Far):
            raise TooSpoilt(self.spoilt_lanes(rows, places))
        many = len(_unlike_cells(self.polylot.field, self._shown, read.word))
        self._shown = read.word
        self._written = read.poly
        return many
