"""The maps of polys, as tables of digits."""

from rankwords.counting import power_of
from rankwords.errors import BadTable, NotInvertible
from rankwords.polys import check_poly
from rankwords.polywork import poly_through, value_of
from rankwords.spaces import things_basis
from rankwords.tables import table_of, word_of_table


def _unit_things(field):
    """The things of which each has the digit 1 once and 0 elsewhere."""
    return tuple([power_of(field.prime, place) for place in range(field.degree)])


def _unit_values(field, poly):
    return tuple([value_of(field, poly, thing) for thing in _unit_things(field)])


def map_table(field, poly):
    """The table of the map of the poly."""
    return table_of(field, _unit_values(field, check_poly(field, poly)))


def poly_of_map(field, table):
    """The poly of fewest terms whose map has this table."""
    values = word_of_table(field, table)
    if len(values) != field.degree:
        raise BadTable()
    return poly_through(field, _unit_things(field), values)


def undone_poly(field, poly):
    """The poly that leads each value of the poly back to where it comes from."""
    values = _unit_values(field, check_poly(field, poly))
    if len(things_basis(field, values)) < field.degree:
        raise NotInvertible()
    return poly_through(field, values, _unit_things(field))
