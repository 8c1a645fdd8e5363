"""How many words have each rank, of all words and of the members of met closed lots."""

from rankwords.counting import power_of, space_count, table_count
from rankwords.errors import BadDistance, BadSizes
from rankwords.kinds import is_whole

_MOST_DEGREE = 12
_MOST_COLUMNS = 12


def check_sizes(prime, degree, columns, most_columns=_MOST_COLUMNS):
    """BadSizes for the first of the three numbers that is refused."""
    if not is_whole(prime, 2, 3):
        raise BadSizes("prime")
    if not is_whole(degree, 1, _MOST_DEGREE):
        raise BadSizes("degree")
    if not is_whole(columns, 1, most_columns):
        raise BadSizes("columns")


def words_of_rank(prime, degree, columns, rank):
    """How many words of so many columns have this rank."""
    check_sizes(prime, degree, columns)
    if not is_whole(rank, 0, columns):
        raise BadSizes("rank")
    return table_count(prime, degree, columns, rank)


def _met_count(prime, degree, columns, distance, rank):
    """How many members of a met closed lot have this rank, which is the distance or more."""
    total = 0
    sign = 1
    for j in range(rank - distance + 1):
        heads = power_of(prime, degree * (rank - distance + 1 - j)) - 1
        total = total + (sign * power_of(prime, j * (j - 1) // 2)
                         * space_count(prime, rank, j) * heads)
        sign = -sign
    return space_count(prime, columns, rank) * total


def met_counts(prime, degree, columns, distance):
    """How many members of each rank a met closed lot of this distance has."""
    check_sizes(prime, degree, columns, degree)
    if not is_whole(distance, 1, columns + 1):
        raise BadDistance()
    counts = [1] + [0] * (distance - 1)
    for rank in range(distance, columns + 1):
        counts.append(_met_count(prime, degree, columns, distance, rank))
    return tuple(counts)
