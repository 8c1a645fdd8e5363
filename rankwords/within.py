"""How many members of a closed lot lie within a space, told by the basis of the lot."""

from rankwords.counting import power_of
from rankwords.spaces import (all_spaces, basis_of, contrary_of, contrary_table, echelon,
                              things_space)
from rankwords.tables import digits_of_word, times_table


def _many_led_to_zero(closed, images):
    """How many members a map leads to 0; the images are the rows to which it leads the basis."""
    prime = closed.field.prime
    return power_of(prime, closed.dimension - len(basis_of(prime, images)))


def _many_within(closed, basis):
    """How many members lie within the space of an echelon basis of rows."""
    field = closed.field
    table = contrary_table(field.prime, closed.columns, basis)
    return _many_led_to_zero(closed, [digits_of_word(field, times_table(field, word, table))
                                      for word in closed.basis])


def members_within(closed, rows):
    """How many members lie within the space of the rows."""
    return _many_within(closed, echelon(closed.field.prime, closed.columns, rows))


def _products(prime, digits, rows):
    """The products of the digits with each of the rows."""
    return [sum([one * other for one, other in zip(digits, row)]) % prime for row in rows]


def things_within(closed, things):
    """How many members have all their things in the space of the things."""
    field = closed.field
    basis = [field.digits_of(thing) for thing in things_space(field, things)]
    outside = contrary_of(field.prime, field.degree, basis)
    images = []
    for word in closed.basis:
        products = [_products(field.prime, field.digits_of(thing), outside) for thing in word]
        images.append(tuple([digit for row in products for digit in row]))
    return _many_led_to_zero(closed, images)


def _inner_spaces(field, basis, dimension):
    """The echelon bases of all spaces of the dimension in the space of a basis."""
    width = len(basis)
    # Digits are things, so a row of digits is mixed just as a word is.
    return [basis_of(field.prime, [times_table(field, row, basis) for row in rows])
            for rows in all_spaces(field.prime, width, dimension)]


def members_bearing(closed, rows):
    """How many members have just the space of the rows as their space of rows."""
    prime = closed.field.prime
    basis = echelon(prime, closed.columns, rows)
    total = 0
    for less in range(len(basis) + 1):
        # What lies within lesser spaces is taken off, and added again as often as that is too much.
        weight = power_of(-1, less) * power_of(prime, less * (less - 1) // 2)
        for inner in _inner_spaces(closed.field, basis, len(basis) - less):
            total = total + weight * _many_within(closed, inner)
    return total
