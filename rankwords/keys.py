"""Rows of things, and the linear task by which words are read."""

from rankwords.errors import BadErrors
from rankwords.kinds import is_whole
from rankwords.polywork import trimmed
from rankwords.spaces import checked_rows, leading_place, solving_rows
from rankwords.tables import check_word, scaled_word, word_less


def _cleared(field, row, lead, other):
    """The row less the multiple of the other one that makes it 0 at the place lead."""
    return word_less(field, row, scaled_word(field, row[lead], other))


def _reduced(field, rows):
    """The reduced basis of rows of one width, which are not checked."""
    basis = []
    for row in rows:
        for lead, other in basis:
            row = _cleared(field, row, lead, other)
        lead = leading_place(row)
        if lead is not None:
            row = scaled_word(field, field.inverse(row[lead]), row)
            basis = [(place, _cleared(field, other, lead, row)) for place, other in basis]
            basis.append((lead, row))
    return tuple([row for _, row in sorted(basis)])


def reduced_things(field, width, rows):
    """The reduced basis of all sums of multiples, by things, of the rows."""
    return _reduced(field, checked_rows(field.size, width, rows))


def solutions_basis(field, width, rows):
    """The reduced basis of all rows whose products with each of the rows sum to 0."""
    basis = reduced_things(field, width, rows)
    return _reduced(field, solving_rows(field.prime, width, basis))


def _check_errors(polylot, errors):
    if not is_whole(errors, 0, polylot.distance - 1):
        raise BadErrors()


def key_rows(polylot, word, errors):
    """The rows that polys V and N solve if the value of V at each thing is that of N at its point."""
    field = polylot.field
    good = check_word(field, word, polylot.columns)
    _check_errors(polylot, errors)
    rows = []
    for thing, point in zip(good, polylot.points):
        left = [field.stepped(thing, i) for i in range(errors + 1)]
        right = [field.negative(field.stepped(point, i)) for i in range(polylot.terms + errors)]
        rows.append(tuple(left + right))
    return tuple(rows)


def key_basis(polylot, word, errors):
    """The reduced basis of the solutions of the key rows."""
    rows = key_rows(polylot, word, errors)
    return solutions_basis(polylot.field, len(rows[0]), rows)


def key_couple(polylot, word, errors):
    """The polys V and N of the first solution of the key rows, or None."""
    basis = key_basis(polylot, word, errors)
    if not basis:
        return None
    return trimmed(basis[0][:errors + 1]), trimmed(basis[0][errors + 1:])
