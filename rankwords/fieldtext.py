"""Fields and words as lines of text, and back."""

from rankwords.errors import BadText
from rankwords.fields import Field
from rankwords.tables import check_word

_DIGITS = "0123456789"
_MOST_DIGITS = 3


def _is_number(text):
    if not 1 <= len(text) <= _MOST_DIGITS or (text[0] == "0" and text != "0"):
        return False
    return all([sign in _DIGITS for sign in text])


def line_numbers(text, line):
    """The numbers of a text with one blank between two; BadText(line) if it is none."""
    parts = text.split(" ")
    if not all([_is_number(part) for part in parts]):
        raise BadText(line)
    return [int(part) for part in parts]


def check_text(text):
    """The text; BadText(0) if it is no string."""
    if not isinstance(text, str):
        raise BadText(0)
    return text


def field_text(field):
    """The prime, a colon, and the digits of the modulus, each behind a blank."""
    return f"{field.prime}: " + " ".join([str(digit) for digit in field.modulus])


def read_field(text):
    """The field of such a text."""
    # Where no colon with a blank stands, nothing is left for the modulus, which is refused, too.
    prime, _, modulus = check_text(text).partition(": ")
    if not _is_number(prime):
        raise BadText(0)
    return Field(int(prime), line_numbers(modulus, 0))


def word_text(field, word):
    """The things of the word with one blank between two."""
    return " ".join([str(thing) for thing in check_word(field, word)])


def read_word_text(field, text):
    """The word of such a text."""
    return check_word(field, line_numbers(check_text(text), 0))
