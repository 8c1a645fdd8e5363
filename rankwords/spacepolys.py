"""Polys that have a space of zeros or pass through given values."""

from rankwords.errors import BadPoints, BadWord, NotApart
from rankwords.fields import check_things
from rankwords.polywork import poly_through, with_zero
from rankwords.tables import check_word

_MOST_THINGS = 32


def poly_of_space(field, things):
    """The poly (.., 1) of fewest terms that is 0 just at the sums of multiples of the things."""
    poly = (1,)
    for thing in check_things(field, things, _MOST_THINGS):
        poly = with_zero(field, poly, thing)
    return poly


def _check_apart(field, points):
    poly = (1,)
    for index, point in enumerate(points):
        wider = with_zero(field, poly, point)
        if wider == poly:
            raise NotApart(index)
        poly = wider


def check_points(field, points):
    """Points that are apart, as a tuple."""
    try:
        good = check_word(field, points)
    except BadWord as refused:
        raise BadPoints(refused.index) from None
    _check_apart(field, good)
    return good


def interpolated(field, points, values):
    """The poly of at most as many terms as points with these values at them."""
    good = check_points(field, points)
    return poly_through(field, good, check_word(field, values, len(good)))
