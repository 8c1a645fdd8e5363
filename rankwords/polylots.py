"""Poly lots: the values of all polys of few terms at points that are apart."""

from rankwords.closed import ClosedLot
from rankwords.counting import power_of
from rankwords.errors import BadTerms, NotMember
from rankwords.kinds import is_whole
from rankwords.polys import check_poly
from rankwords.polywork import poly_through, value_of
from rankwords.spacepolys import check_points
from rankwords.tables import check_word, scaled_word, stepped_word


def _check_terms(terms, most):
    if not is_whole(terms, 1, most):
        raise BadTerms()
    return terms


class PolyLot:
    """The closed lot of the values, at the points, of all polys of at most so many terms."""

    def __init__(self, field, points, terms):
        self.field = field
        self.points = check_points(field, points)
        self.columns = len(self.points)
        self.terms = _check_terms(terms, self.columns)
        self.distance = self.columns - terms + 1
        self.size = power_of(field.size, terms)

    def __eq__(self, other):
        return (isinstance(other, PolyLot) and self.field == other.field
                and self.points == other.points and self.terms == other.terms)

    def word_for(self, poly):
        """The member of a poly of at most as many terms as the lot has."""
        good = check_poly(self.field, poly, self.terms)
        return tuple([value_of(self.field, good, point) for point in self.points])

    def poly_for(self, word):
        """The only poly of at most as many terms whose member the word is."""
        poly = _poly_of_word(self, word)
        if len(poly) > self.terms:
            raise NotMember()
        return poly

    def holds(self, word):
        """Whether the word is a member."""
        return len(_poly_of_word(self, word)) <= self.terms

    def all_members(self):
        """Yields the members, if they are at most 256, in ascending order."""
        closed = self.as_closed()
        for word in closed.all_members():
            yield word

    def as_lot(self):
        """The Lot of the members, if they are at most 256."""
        return self.as_closed().as_lot()

    def as_closed(self):
        """The closed lot of the members."""
        return ClosedLot(self.field, self.columns, _spanning_words(self))


def _poly_of_word(lot, word):
    return poly_through(lot.field, lot.points, check_word(lot.field, word, lot.columns))


def _spanning_words(lot):
    """The members of the polys of which one term is one digit, which sum to all members."""
    words = []
    for steps in range(lot.terms):
        powers = stepped_word(lot.field, lot.points, steps)
        for place in range(lot.field.degree):
            words.append(scaled_word(lot.field, power_of(lot.field.prime, place), powers))
    return words
