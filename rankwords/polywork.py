"""What is calculated with polys that are checked already."""


def trimmed(terms):
    """The terms as a tuple without the zeros at the end."""
    many = len(terms)
    while many and terms[many - 1] == 0:
        many -= 1
    return tuple(terms[:many])


def value_of(field, poly, thing):
    """The value of the poly at the thing."""
    value = 0
    for i, term in enumerate(poly):
        value = field.plus(value, field.times(term, field.stepped(thing, i)))
    return value


def sum_of(field, one, other):
    """The sum of two polys, term by term."""
    longer, shorter = (one, other) if len(one) >= len(other) else (other, one)
    terms = list(longer)
    for i, term in enumerate(shorter):
        terms[i] = field.plus(terms[i], term)
    return trimmed(terms)


def scaled_by(field, thing, poly):
    """The poly with all terms multiplied from the left by a thing that is not 0."""
    return tuple([field.times(thing, term) for term in poly])


def less_of(field, one, other):
    """One poly less the other one, term by term."""
    return sum_of(field, one, scaled_by(field, field.negative(1), other))


def put_of(field, outer, inner):
    """The poly whose values are the values of outer at the values of inner."""
    terms = [0] * (len(outer) + len(inner))
    for i, left in enumerate(outer):
        for j, right in enumerate(inner):
            part = field.times(left, field.stepped(right, i))
            terms[i + j] = field.plus(terms[i + j], part)
    return trimmed(terms)


def ended_in_one(field, poly):
    """The poly times the thing that makes its last term 1; () stays as it is."""
    if not poly:
        return ()
    return scaled_by(field, field.inverse(poly[-1]), poly)


def with_zero(field, poly, thing):
    """A poly (.., 1) of fewest terms that is 0 at the zeros of the poly and at the thing."""
    value = value_of(field, poly, thing)
    if value == 0:
        return poly
    # A poly of two terms that is 0 at this value, and elsewhere just at its multiples.
    last = (field.negative(field.over(field.stepped(value, 1), value)), 1)
    return put_of(field, last, poly)


def poly_through(field, points, values):
    """The poly of fewest terms with these values at points that are apart."""
    poly = ()
    # It is 0 at all points so far, so adding it changes no value there.
    spare = (1,)
    for point, value in zip(points, values):
        missing = field.minus(value, value_of(field, poly, point))
        if missing:
            scale = field.over(missing, value_of(field, spare, point))
            poly = sum_of(field, poly, scaled_by(field, scale, spare))
        spare = with_zero(field, spare, point)
    return poly
