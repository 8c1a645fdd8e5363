"""Reading words back that were changed by errors of small rank."""

from rankwords.counting import table_count
from rankwords.divisions import divided_within
from rankwords.errors import BadErrors, BadPoly
from rankwords.keys import key_couple
from rankwords.kinds import is_whole
from rankwords.polys import check_poly
from rankwords.tables import check_word, rank_distance, rank_of, word_less


class Read:
    """A word that was read: its poly and member, the error, and the rank of the error."""

    def __init__(self, poly, word, error, rank):
        self.poly = poly
        self.word = word
        self.error = error
        self.rank = rank

    def __eq__(self, other):
        return (isinstance(other, Read) and self.poly == other.poly and self.word == other.word
                and self.error == other.error and self.rank == other.rank)


class Far:
    """A word that is not read, and its least distance to a member."""

    def __init__(self, least):
        self.least = least

    def __eq__(self, other):
        return isinstance(other, Far) and self.least == other.least


def _most_errors(polylot):
    """The greatest whole number below half of the distance."""
    return (polylot.distance - 1) // 2


def _near_poly(polylot, word):
    """The poly of the member nearer than half of the distance, or None."""
    couple = key_couple(polylot, word, _most_errors(polylot))
    if couple is None:
        return None
    quotient, rest = divided_within(polylot.field, couple[1], couple[0])
    if rest or len(quotient) > polylot.terms:
        return None
    return quotient


def _least_distance(polylot, word):
    """The least distance of a far word to a member."""
    # It is at least half of the distance and at most the distance less 1.
    if polylot.distance <= 3:
        return polylot.distance - 1
    # As no field has a degree above 4, such a lot has just one term, and so few members.
    return min([rank_distance(polylot.field, word, member) for member in polylot.as_lot().members])


def read_word(polylot, word):
    """The Read of the member nearer than half of the distance, or Far if there is none."""
    good = check_word(polylot.field, word, polylot.columns)
    poly = _near_poly(polylot, good)
    if poly is None:
        return Far(_least_distance(polylot, good))
    member = polylot.word_for(poly)
    error = word_less(polylot.field, good, member)
    return Read(poly, member, error, rank_of(polylot.field, error))


def _has_good_poly(polylot, read):
    try:
        check_poly(polylot.field, read.poly, polylot.terms)
    except BadPoly:
        return False
    return True


def read_fault(polylot, word, read):
    """Why a Read of the word is not right, or None."""
    good = check_word(polylot.field, word, polylot.columns)
    if not _has_good_poly(polylot, read):
        return "poly"
    member = polylot.word_for(read.poly)
    if read.word != member:
        return "word"
    error = word_less(polylot.field, good, member)
    if read.error != error:
        return "error"
    rank = rank_of(polylot.field, error)
    if read.rank != rank or 2 * rank >= polylot.distance:
        return "rank"
    return None


def read_count(polylot, *, most=None):
    """How many words have a member at a distance of at most so much."""
    greatest = _most_errors(polylot)
    if most is None:
        most = greatest
    elif not is_whole(most, 0, greatest):
        raise BadErrors()
    field = polylot.field
    return polylot.size * sum([table_count(field.prime, field.degree, polylot.columns, rank)
                               for rank in range(most + 1)])
