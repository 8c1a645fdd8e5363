"""The counts of closed lots by rank, and how those of a lot and of its rest lot tell each other."""

from rankwords.counting import power_of, space_count
from rankwords.errors import BadCounts, BadSizes, NoLot
from rankwords.formulas import check_sizes, words_of_rank
from rankwords.kinds import is_count, is_sequence, is_whole


def _check_size(prime, degree, columns, size):
    """BadSizes for the first number that is refused; any size up to that of all words is let."""
    check_sizes(prime, degree, columns)
    if not is_whole(size, 1, power_of(prime, degree * columns)):
        raise BadSizes("size")


def _check_power(prime, degree, columns, size):
    """As _check_size, but just a power of the prime is let."""
    _check_size(prime, degree, columns, size)
    while size % prime == 0:
        size = size // prime
    if size != 1:
        raise BadSizes("size")


def _are_counts(counts, least, most):
    """Whether it is a sequence of least to most whole numbers from 0."""
    if not is_sequence(counts) or not least <= len(counts) <= most:
        return False
    return all([is_count(count) for count in counts])


def _row_fault(columns, size, counts):
    """What is wrong with counts as far as the size of their lot tells it, or None."""
    if not _are_counts(counts, columns + 1, columns + 1):
        return "row"
    if counts[0] != 1:
        return "first"
    if sum(counts) != size:
        return "sum"
    return None


def _couples_within(prime, columns, counts, dimension):
    """How many couples there are of a member and a space of this dimension that it lies within."""
    return sum([count * space_count(prime, columns - rank, dimension - rank)
                for rank, count in enumerate(counts)])


def _left_side(prime, degree, columns, counts, part):
    couples = _couples_within(prime, columns, counts, columns - part)
    return power_of(prime, degree * part) * couples


def identity_sides(prime, degree, columns, size, counts, others, part):
    """Both sides of the identity between counts and rest counts, equal or not."""
    _check_power(prime, degree, columns, size)
    if not _are_counts(counts, columns + 1, columns + 1):
        raise BadCounts("row")
    if not _are_counts(others, columns + 1, columns + 1):
        raise BadCounts("others")
    if not is_whole(part, 0, columns):
        raise BadSizes("part")
    left = _left_side(prime, degree, columns, counts, part)
    return left, size * _couples_within(prime, columns, others, part)


def _rest_of(prime, degree, columns, size, counts):
    """The rest counts of good counts; NoLot for the first that is no whole number from 0."""
    rest = []
    for rank in range(columns + 1):
        couples, left = divmod(_left_side(prime, degree, columns, counts, rank), size)
        count = couples - _couples_within(prime, columns, rest, rank)
        if left or count < 0:
            raise NoLot(rank)
        rest.append(count)
    return tuple(rest)


def rest_counts(prime, degree, columns, size, counts):
    """The counts of the rest lot of a closed lot with these counts."""
    _check_power(prime, degree, columns, size)
    fault = _row_fault(columns, size, counts)
    if fault is not None:
        raise BadCounts(fault)
    return _rest_of(prime, degree, columns, size, counts)


def _number_fault(prime, degree, columns, counts):
    """What is wrong with single numbers among counts, or None."""
    # A member's multiples are members of the same rank.
    if any([count % (prime - 1) for count in counts[1:]]):
        return "multiple"
    for rank, count in enumerate(counts):
        if count > words_of_rank(prime, degree, columns, rank):
            return "most"
    return None


def _has_good_rest(prime, degree, columns, size, counts):
    try:
        rest = _rest_of(prime, degree, columns, size, counts)
    except NoLot:
        return False
    return _number_fault(prime, degree, columns, rest) is None


def counts_fault(prime, degree, columns, size, counts):
    """Why counts cannot be those of a closed lot of this size, or None."""
    _check_power(prime, degree, columns, size)
    fault = _row_fault(columns, size, counts)
    if fault is None:
        fault = _number_fault(prime, degree, columns, counts)
    if fault is None and not _has_good_rest(prime, degree, columns, size, counts):
        fault = "rest"
    return fault


def _check_couples(columns, couples):
    if not _are_counts(couples, columns + 1, columns + 1):
        raise BadCounts("row")
    if couples[0] == 0:
        raise BadCounts("first")
    if sum(couples) != couples[0] * couples[0]:
        raise BadCounts("sum")


def turned_counts(prime, degree, columns, couples):
    """The couples of a lot turned: of a closed lot, its size squared times the rest counts."""
    check_sizes(prime, degree, columns)
    _check_couples(columns, couples)
    turned = []
    for rank in range(columns + 1):
        left = _left_side(prime, degree, columns, couples, rank)
        turned.append(left - _couples_within(prime, columns, turned, rank))
    return tuple(turned)


def _further_count(prime, degree, columns, size, counts):
    """The count behind these, if as many members lie within each space of its dimension."""
    rank = len(counts)
    couples = size * space_count(prime, columns, rank)
    many, left = divmod(couples, power_of(prime, degree * (columns - rank)))
    count = many - _couples_within(prime, columns, counts, rank)
    if left or count < 0:
        raise NoLot(rank)
    return count


def completed_counts(prime, degree, columns, size, first):
    """The counts that begin with the first ones, if those tell all of them."""
    _check_size(prime, degree, columns, size)
    if not _are_counts(first, 1, columns + 1):
        raise BadCounts("row")
    if first[0] != 1:
        raise BadCounts("first")
    counts = list(first)
    while len(counts) <= columns:
        counts.append(_further_count(prime, degree, columns, size, counts))
    return tuple(counts)
