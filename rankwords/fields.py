"""Small fields, whose things are numbered polynomials over a prime."""

from rankwords.counting import power_of
from rankwords.errors import BadColumns, BadField, BadThing, ZeroThing
from rankwords.kinds import first_beyond, is_sequence, is_whole

_MOST_THINGS = 27


def check_thing(field, thing, index=0):
    """The thing; BadThing(index) if it is none."""
    if not is_whole(thing, 0, field.size - 1):
        raise BadThing(index)
    return thing


def check_things(field, things, most):
    """The things as a tuple; BadThing if there are more than most or one is no thing."""
    if not is_sequence(things) or len(things) > most:
        raise BadThing(-1)
    index = first_beyond(things, field.size)
    if index is not None:
        raise BadThing(index)
    return tuple(things)


def check_columns(field, columns):
    """The number of columns; BadColumns unless words of the field can have it."""
    if not is_whole(columns, 1, field.degree):
        raise BadColumns()
    return columns


def _is_modulus(prime, modulus):
    if not is_sequence(modulus) or not 2 <= len(modulus) <= 5:
        return False
    return first_beyond(modulus, prime) is None and modulus[-1] == 1


def _number_digits(prime, many, number):
    """The lowest digits of a number, so many, lowest first."""
    digits = []
    for _ in range(many):
        number, digit = divmod(number, prime)
        digits.append(digit)
    return tuple(digits)


def _digits_number(prime, digits):
    """The number with these digits, lowest first."""
    number = 0
    for digit in reversed(digits):
        number = number * prime + digit
    return number


def _divides(prime, divisor, poly):
    """Whether a polynomial whose last digit is 1 divides the other one."""
    rest = list(poly)
    for low in reversed(range(len(poly) - len(divisor) + 1)):
        times = rest[low + len(divisor) - 1]
        for place, digit in enumerate(divisor):
            rest[low + place] = (rest[low + place] - times * digit) % prime
    return not any(rest)


def _has_divisor(prime, modulus):
    # Every divisor is a digit times one whose last digit is 1, so only those are tried.
    for degree in range(1, len(modulus) - 1):
        for number in range(power_of(prime, degree)):
            if _divides(prime, _number_digits(prime, degree, number) + (1,), modulus):
                return True
    return False


def _check_field(prime, modulus):
    if not is_whole(prime, 2, 3):
        raise BadField("prime")
    if not _is_modulus(prime, modulus):
        raise BadField("modulus")
    if power_of(prime, len(modulus) - 1) > _MOST_THINGS:
        raise BadField("size")
    if _has_divisor(prime, modulus):
        raise BadField("divisor")


def _sum_table(prime, size):
    """Row by row the sums of all couples of things: digits are added without carry."""
    table = [tuple(range(size))]
    for one in range(1, size):
        higher = table[one // prime]
        table.append(tuple([higher[other // prime] * prime + (one + other) % prime
                            for other in range(size)]))
    return tuple(table)


def _shifted_things(prime, modulus, size, sums):
    """Each thing times the polynomial of the single power 1, modulo the modulus."""
    high = size // prime
    # The highest power is, modulo the modulus, less the other digits of the modulus.
    tops = [_digits_number(prime, [-times * digit % prime for digit in modulus[:-1]])
            for times in range(prime)]
    return [sums[(thing % high) * prime][tops[thing // high]] for thing in range(size)]


def _product_table(prime, modulus, size, sums):
    """Row by row the products of all couples, each row from rows of lesser things."""
    shifted = _shifted_things(prime, modulus, size, sums)
    table = [tuple([0] * size)]
    for one in range(1, size):
        if one < prime:
            parts = [(table[one - 1][other], other) for other in range(size)]
        else:
            parts = [(shifted[table[one // prime][other]], table[one % prime][other])
                     for other in range(size)]
        table.append(tuple([sums[high][low] for high, low in parts]))
    return tuple(table)


def _step_table(prime, degree, size, products):
    """Row i: all things stepped i times."""
    steps = []
    for thing in range(size):
        power = 1
        for _ in range(prime):
            power = products[power][thing]
        steps.append(power)
    row = tuple(range(size))
    table = [row]
    for _ in range(degree - 1):
        row = tuple([steps[thing] for thing in row])
        table.append(row)
    return tuple(table)


class Field:
    """A field of at most 27 things, its sums and products kept in tables."""

    def __init__(self, prime, modulus):
        _check_field(prime, modulus)
        self.prime = prime
        self.modulus = tuple(modulus)
        self.degree = len(modulus) - 1
        self.size = power_of(prime, self.degree)
        self._digits = tuple([_number_digits(prime, self.degree, thing)
                              for thing in range(self.size)])
        self._sums = _sum_table(prime, self.size)
        self._products = _product_table(prime, self.modulus, self.size, self._sums)
        self._negatives = self._products[prime - 1]
        self._inverses = tuple([0] + [row.index(1) for row in self._products[1:]])
        self._steps = _step_table(prime, self.degree, self.size, self._products)

    def __eq__(self, other):
        return isinstance(other, Field) and self.prime == other.prime and self.modulus == other.modulus

    def plus(self, one, other):
        """The sum of two things."""
        return self._sums[one][other]

    def minus(self, one, other):
        """One thing less the other one."""
        return self._sums[one][self._negatives[other]]

    def negative(self, one):
        """0 less the thing."""
        return self._negatives[one]

    def times(self, one, other):
        """The product of two things."""
        return self._products[one][other]

    def inverse(self, one):
        """The only thing whose product with this one is 1."""
        if one == 0:
            raise ZeroThing()
        return self._inverses[one]

    def over(self, one, other):
        """One thing times the inverse of the other one."""
        return self._products[one][self.inverse(other)]

    def multiple(self, number, thing):
        """The sum of so many copies of the thing."""
        # The things below the prime are the digits themselves.
        return self._products[number % self.prime][thing]

    def stepped(self, thing, times):
        """The thing to the power of the prime, so many times."""
        return self._steps[times % self.degree][thing]

    def digits_of(self, thing):
        """The digits of the thing, lowest first."""
        return self._digits[thing]

    def thing_of(self, digits):
        """The thing with these digits, lowest first."""
        return _digits_number(self.prime, digits)
