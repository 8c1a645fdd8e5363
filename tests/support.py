"""What the tests share: fields, wrong values, and slow ways to the same results."""

import copy
import itertools
import random
import unittest

from rankwords.closed import ClosedLot
from rankwords.deeds import Net
from rankwords.fields import Field
from rankwords.losses import Losses
from rankwords.lots import Lot
from rankwords.polylots import PolyLot

KINDS = (
    (2, (0, 1)), (2, (1, 1)), (2, (1, 1, 1)), (2, (1, 1, 0, 1)),
    (2, (1, 1, 0, 0, 1)), (2, (1, 1, 1, 1, 1)),
    (3, (0, 1)), (3, (1, 1)), (3, (1, 0, 1)), (3, (1, 2, 0, 1)),
)
FIELDS = tuple(Field(prime, modulus) for prime, modulus in KINDS)
TWO = Field(2, (1, 1))
FOUR = Field(2, (1, 1, 1))
EIGHT = Field(2, (1, 1, 0, 1))
SIXTEEN = Field(2, (1, 1, 0, 0, 1))
NINE = Field(3, (1, 0, 1))
TWENTY_SEVEN = Field(3, (1, 2, 0, 1))

KEPT_RANKS = {}

NO_INTEGERS = (True, False, 1.0, "1", b"1", None, (1,), [1], {1: 1}, 1j)
NO_SEQUENCES = ("12", b"\x01", {1, 2}, {1: 2}, 5, None, range(2), True, 1.5)


def as_lists(value):
    """The value with each tuple in it turned into a list."""
    if isinstance(value, (list, tuple)):
        return [as_lists(item) for item in value]
    return value


def made_of_tuples(value):
    """Whether no list stands anywhere in the value, nor in the attributes of a result."""
    if isinstance(value, tuple):
        return all(made_of_tuples(item) for item in value)
    if hasattr(value, "__dict__") and not isinstance(value, Field):
        return all(made_of_tuples(item) for item in vars(value).values())
    return not isinstance(value, list)


def rng(seed):
    return random.Random(seed)


def random_word(chance, field, columns):
    return tuple(chance.randrange(field.size) for _ in range(columns))


def random_poly(chance, field, most):
    """A poly of 0 to most terms."""
    terms = chance.randrange(most + 1)
    if terms == 0:
        return ()
    return random_word(chance, field, terms - 1) + (chance.randrange(1, field.size),)


def random_points(chance, field, columns):
    """Things of which none is a sum of multiples of those before it."""
    points, spanned = [], {0}
    while len(points) < columns:
        point = chance.randrange(field.size)
        if point not in spanned:
            points.append(point)
            spanned = spanned_things(field, points)
    return tuple(points)


def random_rows(chance, prime, width, most):
    """0 to most rows of digits."""
    return tuple(tuple(chance.randrange(prime) for _ in range(width))
                 for _ in range(chance.randrange(most + 1)))


def random_invertible(chance, prime, width):
    """A table whose rows are independent."""
    while True:
        table = tuple(tuple(chance.randrange(prime) for _ in range(width)) for _ in range(width))
        if len(spanned_rows(prime, width, table)) == prime ** width:
            return table


def random_closed(chance, field, columns, most):
    """A closed lot that is spanned by 0 to most words."""
    many = chance.randrange(most + 1)
    return ClosedLot(field, columns, [random_word(chance, field, columns) for _ in range(many)])


def random_lot(chance, field, columns, most):
    """A lot of 1 to most words, most of them not closed."""
    many = chance.randrange(1, most + 1)
    return Lot(field, columns, [random_word(chance, field, columns) for _ in range(many)])


def closed_samples(seed, most=5, many=3, fields=None):
    """Random closed lots of every number of columns over all fields."""
    chance = rng(seed)
    for field in fields or FIELDS:
        for columns in range(1, field.degree + 1):
            for _ in range(many):
                yield random_closed(chance, field, columns, most)


def lot_samples(seed, most=12, many=3, fields=None):
    """Random lots of every number of columns over all fields."""
    chance = rng(seed)
    for field in fields or FIELDS:
        for columns in range(1, field.degree + 1):
            for _ in range(many):
                yield random_lot(chance, field, columns, most)


def poly_lots(seed, many=1, fields=None):
    """Poly lots of every number of columns and of terms over all fields."""
    chance = rng(seed)
    for field in fields or FIELDS:
        for columns in range(1, field.degree + 1):
            for terms in range(1, columns + 1):
                for _ in range(many):
                    yield PolyLot(field, random_points(chance, field, columns), terms)


def mixed_sum(chance, field, columns, rows, things):
    """A random word whose rows are sums of the rows, or whose things are sums of the things."""
    word = (0,) * columns
    for row in rows:
        thing = chance.randrange(field.size)
        word = tuple(field.plus(old, field.multiple(digit, thing)) for old, digit in zip(word, row))
    for thing in things:
        row = [chance.randrange(field.prime) for _ in range(columns)]
        word = tuple(field.plus(old, field.multiple(digit, thing)) for old, digit in zip(word, row))
    return word


def error_of_rank(chance, field, columns, rank):
    """A random word of this rank."""
    while True:
        word = mixed_sum(chance, field, columns, (), random_word(chance, field, rank))
        if slow_rank(field, word) == rank:
            return word


def random_losses(chance, field, columns):
    """Losses of any numbers of rows and things."""
    rows = random_rows(chance, field.prime, columns, columns + 1)
    return Losses(field, columns, rows, random_word(chance, field, chance.randrange(field.degree + 2)))


def random_packets(chance, field, columns, most):
    """0 to most rows of a front of so many places and an end."""
    return random_rows(chance, field.prime, columns + field.degree, most)


def random_deed(chance, field, columns, standing):
    """A deed that can be done where so many rows stand."""
    words = ["mix"] + ["drop"] * (standing > 0) + ["copy"] * (0 < standing < 8)
    words += ["false", "false"] * (standing < 8)
    word = chance.choice(words)
    if word == "mix":
        many = chance.choice((standing, standing, chance.randrange(9)))
        return word, tuple(tuple(chance.randrange(field.prime) for _ in range(standing))
                           for _ in range(many))
    if word == "false":
        return word, tuple(chance.randrange(field.prime) for _ in range(columns + field.degree))
    return word, chance.randrange(standing)


def random_net(chance, field, columns, coming, most):
    """A net of 0 to most deeds."""
    net = Net(field, columns, coming, ())
    for _ in range(chance.randrange(most + 1)):
        deed = random_deed(chance, field, columns, net.arriving)
        net = Net(field, columns, coming, net.deeds + (deed,))
    return net


def random_edit(chance, field, columns):
    """An edit over the field; most can be made on a poly lot of so many columns."""
    size = columns if chance.randrange(5) else chance.randrange(1, field.degree + 1)
    return chance.choice((("point", chance.randrange(field.size)),
                          ("strike", chance.randrange(size)),
                          ("terms", chance.randrange(1, size + 1)),
                          ("mix", random_invertible(chance, field.prime, size)),
                          ("step", chance.randrange(field.degree))))


def slow_edited(polylot, edit):
    """The poly lot behind an edit, or None if it cannot be made, from its points alone."""
    field, points, terms = polylot.field, polylot.points, polylot.terms
    word, what = edit
    if word == "point":
        if what in spanned_things(field, points):
            return None
        points += (what,)
    elif word == "strike":
        if what >= len(points) or len(points) == 1:
            return None
        terms = min(terms, len(points) - 1)
        points = points[:what] + points[what + 1:]
    elif word == "terms":
        terms = what
        if terms > len(points):
            return None
    elif word == "mix":
        if len(what) != len(points):
            return None
        points = slow_mixed(field, points, what)
    else:
        points = tuple(slow_power(field, point, field.prime ** what) for point in points)
    return PolyLot(field, points, terms)


def slow_mixed(field, word, table):
    """The word times the table, thing by thing."""
    result = []
    for column in range(len(table[0])):
        total = 0
        for thing, row in zip(word, table):
            total = field.plus(total, field.multiple(row[column], thing))
        result.append(total)
    return tuple(result)


def dimension_of(prime, many):
    """The dimension of a space of so many rows."""
    dimension = 0
    while prime ** dimension < many:
        dimension += 1
    assert prime ** dimension == many
    return dimension


def members_of(closed):
    """All members of a closed lot of any size, from its basis."""
    field, columns = closed.field, closed.columns
    found = [(0,) * columns]
    for word in closed.basis:
        multiples = [tuple(field.multiple(c, x) for x in word) for c in range(field.prime)]
        found = [tuple(map(field.plus, old, part)) for old in found for part in multiples]
    return found


def tally(ranks, columns):
    """How many of the ranks are 0, 1, .. columns."""
    ranks = list(ranks)
    return tuple(ranks.count(rank) for rank in range(columns + 1))


def all_words(field, columns):
    return itertools.product(range(field.size), repeat=columns)


def all_polys(field, most):
    """All polys of at most so many terms, () first."""
    yield ()
    for terms in range(1, most + 1):
        for poly in all_words(field, terms):
            if poly[-1]:
                yield poly


def spanned_rows(prime, width, rows):
    """The set of all sums of multiples of the rows."""
    found = {(0,) * width}
    for row in rows:
        found = {tuple((a + c * b) % prime for a, b in zip(old, row))
                 for old in found for c in range(prime)}
    return found


def spanned_things(field, things):
    """The set of all sums of multiples of the things."""
    found = {0}
    for thing in things:
        sums = set()
        for old in found:
            for _ in range(field.prime):
                sums.add(old)
                old = field.plus(old, thing)
        found = sums
    return found


def slow_rank(field, word):
    """The rank of a word, from the number of things that its things span."""
    return dimension_of(field.prime, len(spanned_things(field, word)))


def slow_ranks(field, columns):
    """The ranks of all words of so many columns, kept as they are asked for often."""
    key = field.prime, field.modulus, columns
    if key not in KEPT_RANKS:
        KEPT_RANKS[key] = {word: slow_rank(field, word) for word in all_words(field, columns)}
    return KEPT_RANKS[key]


def slow_less(field, one, other):
    return tuple(field.minus(a, b) for a, b in zip(one, other))


def slow_distance(field, one, other):
    return slow_rank(field, slow_less(field, one, other))


def slow_power(field, thing, exponent):
    power = 1
    for _ in range(exponent):
        power = field.times(power, thing)
    return power


def slow_value(field, poly, thing):
    """The value of a poly, from powers instead of steps."""
    value = 0
    for term in poly:
        value = field.plus(value, field.times(term, thing))
        thing = slow_power(field, thing, field.prime)
    return value


def slow_sum(field, one, other):
    """The sum of two polys of any number of terms."""
    terms = [field.plus(a, b) for a, b in itertools.zip_longest(one, other, fillvalue=0)]
    while terms and terms[-1] == 0:
        terms.pop()
    return tuple(terms)


def slow_hidden(losses):
    """The set of all words that the losses hide."""
    field, columns = losses.field, losses.columns
    units = [field.prime ** place for place in range(field.degree)]
    found = set(itertools.product(spanned_things(field, losses.things), repeat=columns))
    for row in losses.rows:
        for unit in units:
            # Further multiples come by the other units.
            parts = [tuple(field.multiple(times * digit, unit) for digit in row)
                     for times in range(field.prime)]
            found = {tuple(map(field.plus, old, part)) for old in found for part in parts}
    return found


def slow_rest_rank(losses, word, hidden=None):
    """The least rank of the word less a hidden one; all words must be few."""
    ranks = slow_ranks(losses.field, losses.columns)
    return min(ranks[slow_less(losses.field, word, part)]
               for part in hidden or slow_hidden(losses))


class Case(unittest.TestCase):
    def refuses(self, error, told, function, *args, **more):
        """The call raises just this class of error, with just these attributes."""
        with self.assertRaises(error) as caught:
            function(*args, **more)
        self.assertIs(type(caught.exception), error)
        self.assertEqual(vars(caught.exception), told)

    def takes_lists(self, function, *args):
        """Lists do as tuples do, nothing passed in is changed, no list is returned."""
        listed = [as_lists(arg) for arg in args]
        kept = copy.deepcopy(listed)
        result = function(*listed)
        self.assertEqual(listed, kept)
        self.assertEqual(result, function(*args))
        self.assertTrue(made_of_tuples(result), result)
