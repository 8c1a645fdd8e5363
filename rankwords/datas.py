"""Numbers and heads that stand for the polys, and so for the members, of a poly lot."""

from rankwords.counting import power_of
from rankwords.errors import BadHead, BadNumber
from rankwords.kinds import first_beyond, is_sequence, is_whole
from rankwords.polys import check_poly
from rankwords.polywork import poly_through


def number_of(polylot, poly):
    """The number for which a poly of at most as many terms as the lot has stands."""
    size = polylot.field.size
    return sum([term * power_of(size, place)
                for place, term in enumerate(check_poly(polylot.field, poly, polylot.terms))])


def poly_of_number(polylot, number):
    """The poly that stands for a number below the size of the lot."""
    if not is_whole(number, 0, polylot.size - 1):
        raise BadNumber()
    terms = []
    while number:
        number, term = divmod(number, polylot.field.size)
        terms.append(term)
    return tuple(terms)


def poly_with_head(polylot, head):
    """The poly of the one member that begins with as many things as the lot has terms."""
    if not is_sequence(head) or len(head) != polylot.terms:
        raise BadHead()
    if first_beyond(head, polylot.field.size) is not None:
        raise BadHead()
    return poly_through(polylot.field, polylot.points[:polylot.terms], head)
