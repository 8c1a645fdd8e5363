"""How many spaces and tables there are over a prime."""


def power_of(base, exponent):
    """The base to the power of an exponent from 0 on."""
    result = 1
    for _ in range(exponent):
        result = result * base
    return result


def space_count(prime, whole, part):
    """How many spaces of part dimensions a space of whole dimensions has."""
    if part < 0 or part > whole:
        return 0
    above = below = 1
    for i in range(part):
        above = above * (power_of(prime, whole - i) - 1)
        below = below * (power_of(prime, i + 1) - 1)
    return above // below


def table_count(prime, tall, wide, rank):
    """How many tables of tall rows and wide columns have this rank."""
    result = space_count(prime, wide, rank)
    for i in range(rank):
        result = result * (power_of(prime, tall) - power_of(prime, i))
    return result
