"""Words, their tables of digits, and their rank."""

from rankwords.errors import BadTable, BadWord, Unlike
from rankwords.kinds import first_beyond, is_sequence
from rankwords.spaces import basis_of


def _has_length(field, word, columns):
    if not 1 <= len(word) <= field.degree:
        return False
    return columns is None or len(word) == columns


def check_word(field, word, columns=None):
    """The word as a tuple; BadWord if it is none of so many columns."""
    if not is_sequence(word) or not _has_length(field, word, columns):
        raise BadWord(-1)
    index = first_beyond(word, field.size)
    if index is not None:
        raise BadWord(index)
    return tuple(word)


def table_of(field, word):
    """The table whose columns are the digits of the things of the word."""
    columns = [field.digits_of(thing) for thing in word]
    return tuple([tuple([digits[place] for digits in columns]) for place in range(field.degree)])


def _is_table(field, table):
    if not is_sequence(table) or len(table) != field.degree:
        return False
    for row in table:
        if not is_sequence(row) or len(row) != len(table[0]):
            return False
        if first_beyond(row, field.prime) is not None:
            return False
    return 1 <= len(table[0]) <= field.degree


def word_of_table(field, table):
    """The word with this table; BadTable if no word has it."""
    if not _is_table(field, table):
        raise BadTable()
    return tuple([field.thing_of([row[column] for row in table])
                  for column in range(len(table[0]))])


def digits_of_word(field, word):
    """The flat row of the word."""
    return tuple([digit for thing in word for digit in field.digits_of(thing)])


def word_of_digits(field, digits):
    """The word with this flat row."""
    starts = range(0, len(digits), field.degree)
    return tuple([field.thing_of(digits[start:start + field.degree]) for start in starts])


def _check_alike(one, other):
    if len(one) != len(other):
        raise Unlike()


def word_sum(field, one, other):
    """The sum of two words, thing by thing."""
    _check_alike(one, other)
    return tuple([field.plus(first, second) for first, second in zip(one, other)])


def word_less(field, one, other):
    """One word less the other one, thing by thing."""
    _check_alike(one, other)
    return tuple([field.minus(first, second) for first, second in zip(one, other)])


def scaled_word(field, thing, word):
    """The word with each thing multiplied by the thing."""
    return tuple([field.times(thing, item) for item in word])


def stepped_word(field, word, times):
    """The word with each thing stepped so many times."""
    return tuple([field.stepped(thing, times) for thing in word])


def rank_of(field, word):
    """The dimension of the space of the things of the word."""
    return len(basis_of(field.prime, [field.digits_of(thing) for thing in word]))


def rank_distance(field, one, other):
    """The rank of one word less the other one."""
    return rank_of(field, word_less(field, one, other))


def rows_space(field, word):
    """The echelon basis of the space of the rows of the table of the word."""
    return basis_of(field.prime, table_of(field, word))


def times_table(field, word, table):
    """The word mixed by a table with a row for each of its things."""
    mixed = [0] * len(table[0]) if table else []
    for thing, row in zip(word, table):
        mixed = [field.plus(before, field.multiple(digit, thing))
                 for before, digit in zip(mixed, row)]
    return tuple(mixed)
