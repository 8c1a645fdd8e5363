"""How evenly the members of a lot are spread over heaps."""

from rankwords.counting import power_of
from rankwords.counts import couple_counts
from rankwords.errors import BadSizes
from rankwords.kinds import is_whole
from rankwords.restcounts import turned_counts
from rankwords.spaces import all_spaces, contrary_table
from rankwords.tables import times_table


def even_heads(lot):
    """The greatest number of things for which the lot is even."""
    field = lot.field
    turned = turned_counts(field.prime, field.degree, lot.columns, couple_counts(lot))
    heads = 0
    while heads < lot.columns and turned[heads + 1] == 0:
        heads += 1
    return heads


def _has_even_heaps(lot, heads, rows):
    """Whether every heap of the space of these rows has its even share of the members."""
    field = lot.field
    table = contrary_table(field.prime, lot.columns, rows)
    # The difference of two members lies within the space just if this table mixes them alike.
    heaps = {}
    for word in lot.members:
        mixed = times_table(field, word, table)
        heaps[mixed] = heaps.get(mixed, 0) + 1
    many = power_of(field.size, heads)
    return all([size * many == lot.size for size in list(heaps.values())])


def uneven_space(lot, heads):
    """The first space of rows by which the lot is not even for so many things, or None."""
    if not is_whole(heads, 0, lot.columns):
        raise BadSizes("part")
    dimension = lot.columns - heads
    for rows in all_spaces(lot.field.prime, lot.columns, dimension):
        if not _has_even_heaps(lot, heads, rows):
            return rows
    return None
