"""Poly lots struck, shortened, mixed, stepped and scaled by their points, and compared by them."""

from rankwords.errors import ZeroThing
from rankwords.fields import check_thing
from rankwords.joined import check_column, check_mixing, without_column
from rankwords.polylots import PolyLot
from rankwords.polys import values_at
from rankwords.spacepolys import poly_of_space
from rankwords.tables import scaled_word, stepped_word, times_table


def struck_points(polylot, column):
    """The poly lot whose members are those of this one with the column left out."""
    check_column(polylot, column)
    points = without_column(polylot.points, column)
    return PolyLot(polylot.field, points, min(polylot.terms, len(points)))


def shortened_points(polylot, column):
    """The poly lot of the members that have 0 at the column, with the column left out."""
    check_column(polylot, column)
    # A poly is 0 at the point just if it lies about this one. The quotient has one term less, and
    # its values at the values of this one are those of the poly.
    zero = poly_of_space(polylot.field, (polylot.points[column],))
    points = values_at(polylot.field, zero, without_column(polylot.points, column))
    # If there is just one term, this is refused with BadTerms, as it is to be.
    return PolyLot(polylot.field, points, polylot.terms - 1)


def mixed_points(polylot, table):
    """The poly lot whose members are those of this one times an invertible table."""
    check_mixing(polylot, table)
    return PolyLot(polylot.field, times_table(polylot.field, polylot.points, table), polylot.terms)


def stepped_points(polylot, times):
    """The poly lot whose members are those of this one with each thing stepped so many times."""
    points = stepped_word(polylot.field, polylot.points, times)
    return PolyLot(polylot.field, points, polylot.terms)


def scaled_points(polylot, thing):
    """The poly lot of the same members whose points are times the thing."""
    if check_thing(polylot.field, thing) == 0:
        raise ZeroThing()
    return PolyLot(polylot.field, scaled_word(polylot.field, thing, polylot.points), polylot.terms)


def like_points(one, other):
    """The thing by which the points of one are to be multiplied to be those of the other, or None."""
    if one.field != other.field or one.columns != other.columns or one.terms != other.terms:
        return None
    thing = one.field.over(other.points[0], one.points[0])
    if scaled_word(one.field, thing, one.points) != other.points:
        return None
    return thing


def same_lot(one, other):
    """Whether two poly lots have one field, as many columns and the same members."""
    if one.field != other.field or one.columns != other.columns or one.terms != other.terms:
        return False
    return one.terms == one.columns or like_points(one, other) is not None
