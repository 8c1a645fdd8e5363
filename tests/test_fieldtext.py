"""Point [1.11]: texts of fields and of words."""

import itertools
import unittest

from rankwords.errors import BadField, BadText, BadWord
from rankwords.fields import Field
from rankwords.fieldtext import field_text, read_field, read_word_text, word_text
from tests.support import (Case, EIGHT, FIELDS, FOUR, KINDS, NINE, NO_INTEGERS, NO_SEQUENCES, SIXTEEN,
                           TWENTY_SEVEN, all_words, random_word, rng)

NO_STRINGS = (None, 5, 0, True, b"2: 1 1", ["2: 1 1"], ("1", "2"), {"2: 1 1"}, {}, 1.5)

# None of these is a line of numbers with one blank between two.
NO_LINES = ("", " ", "1 ", " 1", "1  2", "1 2 ", "\n", "1\n", "\n1", "1\n2", "1\t2", "\t1", "1\t",
            "01", "00", "1 02", "000", "1000", "0001", "1234", "-1", "+1", "1.0", "1,2", "x", "1 x",
            "1 2x", "x1", "1_0", "0x1", "1e1", "(1, 2)", "1; 2", "~", "1 2:")


class FieldTextTest(Case):
    def test_all_fields(self):
        for prime, modulus in KINDS:
            text = field_text(Field(prime, modulus))
            self.assertEqual(text, str(prime) + ":" + "".join(" " + str(digit) for digit in modulus))
            self.assertEqual(read_field(text), Field(prime, modulus))
            self.assertIs(type(text), str)

    def test_example(self):
        self.assertEqual(field_text(FOUR), "2: 1 1 1")
        self.assertEqual(read_field("2: 1 1 1"), FOUR)
        self.assertEqual(read_field("3: 1 2 0 1"), TWENTY_SEVEN)
        self.assertEqual(read_field("2: 0 1").size, 2)

    def test_no_strings(self):
        for text in NO_STRINGS:
            self.refuses(BadText, {"line": 0}, read_field, text)
            self.refuses(BadText, {"line": 0}, read_word_text, FOUR, text)

    def test_forms(self):
        for line in NO_LINES:
            self.refuses(BadText, {"line": 0}, read_field, "2: " + line)
            self.refuses(BadText, {"line": 0}, read_field, line)
            self.refuses(BadText, {"line": 0}, read_field, line + ": 1 1 1")
        for text in ("2:1 1 1", "2 : 1 1 1", "2 1 1 1", ": 1 1 1", "2:", "2", "2: ", "2:  1 1 1",
                     "2: 1 1 1 ", " 2: 1 1 1", "2: 1 1 1\n", "\n2: 1 1 1", "2:\t1 1 1", "2: 1\n1 1",
                     "2:: 1 1 1", "2: : 1 1 1", "2: 1: 1 1", "02: 1 1 1", "2: 1 1 01", "2, 1 1 1",
                     "2 3: 1 1 1", "-2: 1 1 1", "two: 1 1 1", "2: 1 1 1\n0 0"):
            self.refuses(BadText, {"line": 0}, read_field, text)

    def test_errors_of_fields(self):
        for text, what in (("5: 1 1 1", "prime"), ("0: 1 1 1", "prime"), ("999: 9", "prime"),
                           ("2: 1", "modulus"), ("2: 0", "modulus"), ("2: 1 1 0", "modulus"),
                           ("2: 1 2 1", "modulus"), ("2: 1 0 0 0 0 1", "modulus"),
                           ("3: 999 1", "modulus"), ("3: 1 1 1 1 1", "size"), ("2: 1 0 1", "divisor"),
                           ("3: 0 0 1", "divisor")):
            self.refuses(BadField, {"what": what}, read_field, text)

    def test_all_short_texts(self):
        """Of all texts of a few signs, those of the form raise nothing or what Field raises."""
        for size in range(5):
            for signs in itertools.product("012: \n", repeat=size):
                text = "".join(signs)
                good = (size > 3 and text[0] in "012" and text[1:3] == ": " and text[3] in "012")
                with self.assertRaises((BadText, BadField)) as caught:
                    read_field(text)
                self.assertEqual(isinstance(caught.exception, BadField), good, text)


class WordTextTest(Case):
    def test_words(self):
        chance = rng(1)
        for field in FIELDS:
            for columns in range(1, field.degree + 1):
                word = random_word(chance, field, columns)
                text = word_text(field, word)
                self.assertEqual(text, " ".join(map(str, word)))
                self.assertEqual(read_word_text(field, text), word)
                self.assertEqual(word_text(field, list(word)), text)
                self.assertIs(type(read_word_text(field, text)), tuple)

    def test_all_words(self):
        for field in (FOUR, NINE):
            for columns in range(1, field.degree + 1):
                for word in all_words(field, columns):
                    self.assertEqual(read_word_text(field, word_text(field, word)), word)

    def test_some(self):
        self.assertEqual(word_text(TWENTY_SEVEN, (26, 0, 10)), "26 0 10")
        self.assertEqual(read_word_text(TWENTY_SEVEN, "26 0 10"), (26, 0, 10))
        self.assertEqual(read_word_text(SIXTEEN, "0"), (0,))

    def test_words_refused(self):
        for word in NO_SEQUENCES + ((), (1,) * 4):
            self.refuses(BadWord, {"index": -1}, word_text, EIGHT, word)
        for thing in NO_INTEGERS + (-1, 8):
            self.refuses(BadWord, {"index": 1}, word_text, EIGHT, [7, thing, 9])

    def test_forms(self):
        for line in NO_LINES:
            self.refuses(BadText, {"line": 0}, read_word_text, TWENTY_SEVEN, line)
            self.refuses(BadText, {"line": 0}, read_word_text, TWENTY_SEVEN, "999 " + line)

    def test_errors_of_words(self):
        self.refuses(BadWord, {"index": -1}, read_word_text, EIGHT, "1 2 3 4")
        self.refuses(BadWord, {"index": -1}, read_word_text, FOUR, "999 999 999")
        self.refuses(BadWord, {"index": 1}, read_word_text, EIGHT, "7 8 9")
        self.refuses(BadWord, {"index": 0}, read_word_text, EIGHT, "999")
        self.refuses(BadWord, {"index": 2}, read_word_text, EIGHT, "0 0 10")
        self.refuses(BadText, {"line": 0}, read_word_text, EIGHT, "9 9 9 9 09")

    def test_all_short_texts(self):
        for size in range(5):
            for signs in itertools.product("01 \n", repeat=size):
                text = "".join(signs)
                parts = text.split(" ")
                good = all(part.isdigit() and str(int(part)) == part and len(part) < 4
                           for part in parts)
                if good and len(parts) <= 3 and all(int(part) < 8 for part in parts):
                    self.assertEqual(read_word_text(EIGHT, text), tuple(map(int, parts)))
                else:
                    with self.assertRaises(BadWord if good else BadText):
                        read_word_text(EIGHT, text)


if __name__ == "__main__":
    unittest.main()
