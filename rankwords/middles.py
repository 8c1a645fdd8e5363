"""Words between two words, and ways from one to the other."""

from rankwords.counting import power_of, space_count
from rankwords.errors import BadErrors
from rankwords.kinds import is_whole
from rankwords.spaces import all_spaces, contrary_of, leading_place, rows_of_space, things_basis
from rankwords.tables import check_word, rank_distance, times_table, word_less, word_sum

_MOST_RANK = 12


def _checked_words(field, words):
    """The words as tuples; BadWord unless all have the length of the first."""
    good = [check_word(field, words[0])]
    for word in words[1:]:
        good.append(check_word(field, word, len(good[0])))
    return good


def _shares(field, basis, word):
    """The table that mixes a basis of things to the word."""
    # At the leading place of a thing of the basis all its other things have 0.
    leads = [leading_place(field.digits_of(thing)) for thing in basis]
    return tuple([tuple([field.digits_of(thing)[lead] for thing in word]) for lead in leads])


def _parts_of_rank_one(field, word):
    basis = things_basis(field, word)
    return tuple([tuple([field.multiple(digit, thing) for digit in row])
                  for thing, row in zip(basis, _shares(field, basis, word))])


def rank_parts(field, word):
    """Words of rank 1 that sum to the word, as many as its rank."""
    return _parts_of_rank_one(field, check_word(field, word))


def way_between(field, one, other):
    """Words from one to the other, each as far from each as their places on the way are."""
    start, goal = _checked_words(field, (one, other))
    way = [start]
    for part in _parts_of_rank_one(field, word_less(field, goal, start)):
        way.append(word_sum(field, way[-1], part))
    return tuple(way)


def middle_word(field, one, other):
    """The word in the middle of the way."""
    way = way_between(field, one, other)
    return way[(len(way) - 1) // 2]


def middle_fault(field, one, other, word):
    """Why a word does not lie in the middle of two words, or None."""
    start, goal, middle = _checked_words(field, (one, other, word))
    rank = rank_distance(field, start, goal)
    if rank_distance(field, start, middle) != rank // 2:
        return "one"
    if rank_distance(field, middle, goal) != rank - rank // 2:
        return "other"
    return None


def between_count(prime, rank, first):
    """How many words lie between two words at distance rank, at the distance first from one."""
    if not is_whole(rank, 0, _MOST_RANK) or not is_whole(first, 0, rank):
        raise BadErrors()
    return space_count(prime, rank, first) * power_of(prime, first * (rank - first))


def _more_of_row(prime, table, digits, row):
    """The table with the row, times a digit for each, added to its rows."""
    return tuple([tuple([(old + digit * new) % prime for old, new in zip(other, row)])
                  for other, digit in zip(table, digits)])


def _projections(prime, width, basis):
    """All tables that lead every row into the space of a basis, and the rows in it to themselves."""
    # Such a table leads the row with 1 at a leading place to the row of the basis led by it, and
    # all others to 0. Any other one differs by rows of the space times rows of the contrary.
    leads = {leading_place(row): row for row in basis}
    tables = [tuple([leads.get(place, (0,) * width) for place in range(width)])]
    rows = rows_of_space(prime, width, basis)
    for digits in contrary_of(prime, width, basis):
        tables = [_more_of_row(prime, table, digits, row) for table in tables for row in rows]
    return tables


def _parts_between(field, word, first):
    """All words of rank first whose difference from the word has the rest of its rank."""
    basis = things_basis(field, word)
    shares = _shares(field, basis, word)
    width = len(basis)
    parts = []
    for rows in all_spaces(field.prime, width, first):
        for table in _projections(field.prime, width, rows):
            parts.append(times_table(field, times_table(field, basis, table), shares))
    return parts


def all_between(field, one, other, first):
    """All words between one and other at the distance first from one, ascending."""
    start, goal = _checked_words(field, (one, other))
    less = word_less(field, goal, start)
    if not is_whole(first, 0, rank_distance(field, start, goal)):
        raise BadErrors()
    if first == 0:
        return (start,)
    return tuple(sorted([word_sum(field, start, part)
                         for part in _parts_between(field, less, first)]))
