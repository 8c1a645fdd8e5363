"""Spaces of rows of digits, told by their echelon bases, and spaces of things."""

from rankwords.errors import BadRow
from rankwords.fields import check_thing, check_things
from rankwords.kinds import first_beyond, is_sequence

_MOST_THINGS = 16


def _checked_row(limit, width, row, index):
    if not is_sequence(row) or len(row) != width or first_beyond(row, limit) is not None:
        raise BadRow(index)
    return tuple(row)


def checked_rows(limit, width, rows):
    """The rows as a list of tuples; BadRow unless each has so many items from 0 to limit - 1."""
    if not is_sequence(rows):
        raise BadRow(-1)
    return [_checked_row(limit, width, row, index) for index, row in enumerate(rows)]


def leading_place(row):
    """The first place that is not 0, or None."""
    for place, digit in enumerate(row):
        if digit:
            return place
    return None


def _less_multiple(prime, row, times, other):
    return tuple([(one - times * two) % prime for one, two in zip(row, other)])


def _cleared(prime, basis, row):
    """The row less what the couples (leading place, row) of the basis make of it."""
    for lead, other in basis:
        if row[lead]:
            row = _less_multiple(prime, row, row[lead], other)
    return row


def basis_of(prime, rows):
    """The echelon basis of rows of one width, which are not checked."""
    basis = []
    for row in rows:
        row = _cleared(prime, basis, row)
        lead = leading_place(row)
        if lead is not None:
            # Modulo 2 and modulo 3 a digit that is not 0 is its own inverse.
            row = tuple([row[lead] * digit % prime for digit in row])
            basis = [(place, _cleared(prime, [(lead, row)], other)) for place, other in basis]
            basis.append((lead, row))
    return tuple([row for _, row in sorted(basis)])


def left_of(prime, basis, row):
    """The row less the one in the space of an echelon basis with its digits at the leading places."""
    return _cleared(prime, [(leading_place(other), other) for other in basis], row)


def lies_within(prime, basis, row):
    """Whether a row lies in the space of an echelon basis; nothing is checked."""
    return not any(left_of(prime, basis, row))


def solving_rows(prime, width, basis):
    """Rows that span all those whose products with each row of a basis sum to 0.

    Each row of the basis leads with 1 at a place where the others have 0. It may be made of
    digits or of things.
    """
    leads = [leading_place(row) for row in basis]
    found = []
    for place in range(width):
        if place not in leads:
            # One free item is less 1, as a digit and as a thing; so no other one needs a sign.
            row = [0] * width
            row[place] = prime - 1
            for lead, other in zip(leads, basis):
                row[lead] = other[place]
            found.append(tuple(row))
    return found


def contrary_of(prime, width, basis):
    """The basis of the contrary of an echelon basis, which is not checked."""
    return basis_of(prime, solving_rows(prime, width, basis))


def contrary_table(prime, width, basis):
    """The table whose columns are the basis of the contrary of an echelon basis.

    A word times this table is 0 just if the rows of the word lie in the space of the basis.
    """
    columns = contrary_of(prime, width, basis)
    return tuple([tuple([row[place] for row in columns]) for place in range(width)])


def _sums_of(prime, width, basis):
    """All rows of the space of an echelon basis, ascending."""
    # The digits at the leading places decide the order, the first one most of all.
    rows = [(0,) * width]
    for other in basis:
        rows = [_less_multiple(prime, row, -digit, other) for row in rows for digit in range(prime)]
    return tuple(rows)


def echelon(prime, width, rows):
    """The echelon basis of the space of the rows."""
    return basis_of(prime, checked_rows(prime, width, rows))


def row_rank(prime, width, rows):
    """The dimension of the space of the rows."""
    return len(echelon(prime, width, rows))


def contrary(prime, width, rows):
    """The echelon basis of all rows whose products with each of the rows sum to 0."""
    return contrary_of(prime, width, echelon(prime, width, rows))


def sum_spaces(prime, width, one, other):
    """The echelon basis of all sums of a row of each space."""
    first = checked_rows(prime, width, one)
    return basis_of(prime, first + checked_rows(prime, width, other))


def meet_spaces(prime, width, one, other):
    """The echelon basis of the rows that lie in both spaces."""
    first = contrary(prime, width, one)
    second = contrary(prime, width, other)
    return contrary_of(prime, width, basis_of(prime, first + second))


def holds_row(prime, width, rows, row):
    """Whether the row lies in the space of the rows."""
    basis = echelon(prime, width, rows)
    return lies_within(prime, basis, _checked_row(prime, width, row, 0))


def rows_of_space(prime, width, rows):
    """All rows of the space of the rows, ascending."""
    return _sums_of(prime, width, echelon(prime, width, rows))


def unit_row(width, place):
    """The row with 1 at the place and 0 elsewhere."""
    return tuple([int(place == at) for at in range(width)])


def _rows_led_by_one(prime, width, zeros):
    """All rows that begin with 1 and are 0 at the places of zeros."""
    rows = [(1,)]
    for place in range(1, width):
        many = 1 if place in zeros else prime
        rows = [row + (digit,) for row in rows for digit in range(many)]
    return rows


def _all_bases(prime, width, dimension):
    """The echelon bases of all spaces of the dimension, in any order."""
    if dimension < 0 or dimension > width:
        return []
    if dimension == 0:
        return [()]
    found = [tuple([(0,) + row for row in basis])
             for basis in _all_bases(prime, width - 1, dimension)]
    for basis in _all_bases(prime, width - 1, dimension - 1):
        later = tuple([(0,) + row for row in basis])
        leads = [leading_place(row) for row in later]
        found.extend([(row,) + later for row in _rows_led_by_one(prime, width, leads)])
    return found


def all_spaces(prime, width, dimension):
    """The echelon bases of all spaces of the dimension, ascending."""
    for basis in sorted(_all_bases(prime, width, dimension)):
        yield basis


def things_basis(field, things):
    """The basis, as things, of the space of things, which are not checked."""
    rows = basis_of(field.prime, [field.digits_of(thing) for thing in things])
    return tuple([field.thing_of(row) for row in rows])


def things_space(field, things):
    """The basis, as things, of the space of at most 16 things."""
    return things_basis(field, check_things(field, things, _MOST_THINGS))


def space_things(field, things):
    """All things of the space of at most 16 things, ascending."""
    basis = [field.digits_of(thing) for thing in things_space(field, things)]
    rows = _sums_of(field.prime, field.degree, basis)
    return tuple(sorted([field.thing_of(row) for row in rows]))


def holds_thing(field, things, thing):
    """Whether the thing lies in the space of at most 16 things."""
    basis = [field.digits_of(member) for member in things_space(field, things)]
    row = field.digits_of(check_thing(field, thing))
    return lies_within(field.prime, basis, row)
