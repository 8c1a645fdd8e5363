"""Polys, whose term i is multiplied by the thing stepped i times."""

from rankwords.errors import BadPoly
from rankwords.fields import check_thing, check_things
from rankwords.kinds import first_beyond, is_sequence
from rankwords.polywork import less_of, put_of, sum_of, trimmed, value_of
from rankwords.spaces import things_basis

_MOST_THINGS = 32


def check_poly(field, poly, most=16):
    """The poly as a tuple; BadPoly if it is none of at most so many terms."""
    if not is_sequence(poly) or len(poly) > most:
        raise BadPoly(-1)
    index = first_beyond(poly, field.size)
    if index is not None:
        raise BadPoly(index)
    if poly and poly[-1] == 0:
        raise BadPoly(len(poly) - 1)
    return tuple(poly)


def value_at(field, poly, thing):
    """The value of the poly at the thing."""
    good = check_poly(field, poly)
    return value_of(field, good, check_thing(field, thing))


def values_at(field, poly, things):
    """The values of the poly at each of at most 32 things."""
    good = check_poly(field, poly)
    return tuple([value_of(field, good, thing)
                  for thing in check_things(field, things, _MOST_THINGS)])


def poly_sum(field, one, other):
    """The sum of two polys, term by term."""
    first = check_poly(field, one)
    return sum_of(field, first, check_poly(field, other))


def poly_less(field, one, other):
    """One poly less the other one, term by term."""
    first = check_poly(field, one)
    return less_of(field, first, check_poly(field, other))


def put_into(field, outer, inner):
    """The poly whose value is the value of outer at the value of inner."""
    first = check_poly(field, outer)
    return put_of(field, first, check_poly(field, inner))


def zeros_of(field, poly):
    """The basis of the space of the things at which the value is 0."""
    good = check_poly(field, poly)
    return things_basis(field, [thing for thing in range(field.size)
                                if value_of(field, good, thing) == 0])


def reduced_poly(field, poly):
    """The poly of at most as many terms as the degree that has the same values."""
    terms = [0] * field.degree
    for i, term in enumerate(check_poly(field, poly)):
        # As many steps as the degree lead each thing back to itself.
        place = i % field.degree
        terms[place] = field.plus(terms[place], term)
    return trimmed(terms)
