"""The two divisions of polys, and what polys have in common."""

from rankwords.errors import NoDivisor
from rankwords.polys import check_poly
from rankwords.polywork import ended_in_one, less_of, put_of, scaled_by, sum_of


def _check_both(field, poly, divisor):
    good = check_poly(field, poly)
    other = check_poly(field, divisor)
    if not other:
        raise NoDivisor()
    return good, other


def divided_within(field, poly, divisor):
    """The couple (quotient, rest) with poly = put_into(divisor, quotient) + rest."""
    rest, inside = _check_both(field, poly, divisor)
    quotient = ()
    while len(rest) >= len(inside):
        # The divisor steps the quotient's last term, so that is undone here.
        last = field.stepped(field.over(rest[-1], inside[-1]), 1 - len(inside))
        part = (0,) * (len(rest) - len(inside)) + (last,)
        quotient = sum_of(field, quotient, part)
        rest = less_of(field, rest, put_of(field, inside, part))
    return quotient, rest


def _divide_about(field, poly, divisor):
    quotient, rest = (), poly
    while len(rest) >= len(divisor):
        many = len(rest) - len(divisor)
        last = field.over(rest[-1], field.stepped(divisor[-1], many))
        part = (0,) * many + (last,)
        quotient = sum_of(field, quotient, part)
        rest = less_of(field, rest, put_of(field, part, divisor))
    return quotient, rest


def divided_about(field, poly, divisor):
    """The couple (quotient, rest) with poly = put_into(quotient, divisor) + rest."""
    good, other = _check_both(field, poly, divisor)
    return _divide_about(field, good, other)


def _divided_down(field, one, other):
    """Divides one about other, then other about the rest, and so on down to ().

    Returns the last rest that is not () and the () behind it, each as a triple
    (rest, by_one, by_other) with rest = put_into(by_one, one) + put_into(by_other, other).
    """
    last = (one, (1,), ())
    rest = (other, (), (1,))
    while rest[0]:
        quotient, _ = _divide_about(field, last[0], rest[0])
        parts = [less_of(field, before, put_of(field, quotient, now))
                 for before, now in zip(last, rest)]
        last, rest = rest, tuple(parts)
    return last, rest


def _checked_down(field, one, other):
    first = check_poly(field, one)
    return _divided_down(field, first, check_poly(field, other))


def common_about(field, one, other):
    """The poly of most terms about which both lie, its last term 1."""
    last, _ = _checked_down(field, one, other)
    return ended_in_one(field, last[0])


def common_parts(field, one, other):
    """The common poly D with two polys that, around one and other, sum to it."""
    last, _ = _checked_down(field, one, other)
    if not last[0]:
        return (), (), ()
    scale = field.inverse(last[0][-1])
    common, by_one, by_other = [scaled_by(field, scale, part) for part in last]
    return common, by_one, by_other


def least_about(field, one, other):
    """The poly of fewest terms that lies about both, its last term 1."""
    _, rest = _checked_down(field, one, other)
    return ended_in_one(field, put_of(field, rest[1], check_poly(field, one)))
