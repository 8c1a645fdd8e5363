"""Benches, which hold a poly lot and some of its polys while the lot is edited."""

from rankwords.edits import check_edits, made_edit
from rankwords.errors import BadEdit, Held, NothingDone
from rankwords.goals import check_goals, first_unmet
from rankwords.polys import check_poly
from rankwords.reading import Read, read_word
from rankwords.tables import stepped_word


def _check_held(polys, terms):
    """Held for the first poly of more terms than so many."""
    for index, poly in enumerate(polys):
        if len(poly) > terms:
            raise Held(index)


def _state_behind(polylot, polys, edit, index):
    """The poly lot and the polys behind an edit that is checked and is told by this index."""
    behind = made_edit(polylot, edit)
    if behind is None:
        raise BadEdit(index, "now")
    _check_held(polys, behind.terms)
    if edit[0] == "step":
        # A poly is a tuple of things, so it is stepped as a word is.
        return behind, tuple([stepped_word(behind.field, poly, edit[1]) for poly in polys])
    return behind, polys


class Bench:
    """A poly lot, polys held with it, and a log of what was done to them."""

    def __init__(self, polylot):
        self._current = polylot
        self._polys = ()
        self._words = ()
        self._log = ()
        # What was current, and which polys were held, ahead of each entry of the log.
        self._ahead = []

    @property
    def current(self):
        """The present poly lot."""
        return self._current

    @property
    def polys(self):
        """The polys held, in the order in which they were put in."""
        return self._polys

    @property
    def words(self):
        """The members of the polys in the present poly lot."""
        return self._words

    @property
    def log(self):
        """What was done and not taken back."""
        return self._log

    def _put(self, polylot, polys):
        self._current = polylot
        self._polys = polys
        self._words = tuple([polylot.word_for(poly) for poly in polys])

    def _do(self, entry, polylot, polys):
        self._ahead.append((self._current, self._polys))
        self._log = self._log + (entry,)
        self._put(polylot, polys)

    def make(self, edit):
        """Makes one edit, by which the polys that are held are led along."""
        good = check_edits(self._current.field, [edit])[0]
        behind, polys = _state_behind(self._current, self._polys, good, 0)
        self._do(good, behind, polys)

    def put_in(self, poly):
        """Holds a poly of at most as many terms as the present poly lot has."""
        good = check_poly(self._current.field, poly, self._current.terms)
        self._do(("put", good), self._current, self._polys + (good,))

    def read_in(self, word):
        """Reads a word as read_word does, and holds the poly if there is one."""
        read = read_word(self._current, word)
        if isinstance(read, Read):
            self.put_in(read.poly)
        return read

    def take_back(self):
        """Undoes what was done last, and returns its entry of the log."""
        if not self._log:
            raise NothingDone()
        entry = self._log[-1]
        self._log = self._log[:-1]
        polylot, polys = self._ahead.pop()
        self._put(polylot, polys)
        return entry


def try_edits(bench, edits, goals=()):
    """What first_unmet tells of the poly lot behind these edits; the bench stays as it is."""
    polylot, polys = bench.current, bench.polys
    good = check_edits(polylot.field, edits)
    check_goals(polylot.field, goals)
    for index, edit in enumerate(good):
        polylot, polys = _state_behind(polylot, polys, edit, index)
    return first_unmet(polylot, goals)
