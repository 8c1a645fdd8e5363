"""Point [1.11]: texts of lots."""

import unittest

from rankwords.errors import BadField, BadLot, BadText
from rankwords.fieldtext import field_text, word_text
from rankwords.lots import Lot
from rankwords.lottext import lot_text, read_lot
from tests.support import (Case, EIGHT, FIELDS, FOUR, NINE, closed_samples, lot_samples, poly_lots,
                           rng)
from tests.test_fieldtext import NO_LINES, NO_STRINGS

HEAD = "2: 1 1 1"


class TextTest(Case):
    def test_samples(self):
        for lot in lot_samples(1):
            lines = lot_text(lot).split("\n")
            self.assertEqual(lines[0], field_text(lot.field))
            self.assertEqual(lines[1:], [word_text(lot.field, member) for member in lot.members])
            self.assertEqual(read_lot(lot_text(lot)), lot)
            self.assertEqual(lot_text(read_lot(lot_text(lot))), lot_text(lot))

    def test_lots_of_other_parts(self):
        for lot in list(closed_samples(2)) + list(poly_lots(2)):
            if lot.size <= 256:
                self.assertEqual(read_lot(lot_text(lot.as_lot())), lot.as_lot())

    def test_example(self):
        lot = Lot(FOUR, 2, [(3, 0), (1, 2), (3, 0)])
        self.assertEqual(lot_text(lot), "2: 1 1 1\n1 2\n3 0")

    def test_one_member(self):
        for field in FIELDS:
            lot = Lot(field, 1, [[field.size - 1]])
            self.assertEqual(lot_text(lot), field_text(field) + "\n" + str(field.size - 1))
            self.assertEqual(read_lot(lot_text(lot)), lot)

    def test_numbers_not_text_order(self):
        """Members ascend as tuples of integers."""
        lot = Lot(EIGHT, 2, [(0, 7), (7, 0), (3, 5), (3, 4)])
        self.assertEqual(lot_text(lot).split("\n")[1:], ["0 7", "3 4", "3 5", "7 0"])
        lot = read_lot("2: 1 1 0 0 1\n10\n9\n1")
        self.assertEqual(lot.members, ((1,), (9,), (10,)))


class ReadTest(Case):
    def test_any_order_and_twice(self):
        chance = rng(3)
        for lot in lot_samples(3):
            lines = lot_text(lot).split("\n")
            members = lines[1:] + [chance.choice(lines[1:]) for _ in range(3)]
            chance.shuffle(members)
            self.assertEqual(read_lot("\n".join(lines[:1] + members)), lot)

    def test_no_strings(self):
        for text in NO_STRINGS:
            self.refuses(BadText, {"line": 0}, read_lot, text)

    def test_lines(self):
        for line in NO_LINES:
            if "\n" not in line:
                for index in (1, 2, 5):
                    text = "\n".join([HEAD] + ["1 2"] * (index - 1) + [line, "1 1"])
                    self.refuses(BadText, {"line": index}, read_lot, text)
                    self.refuses(BadText, {"line": index}, read_lot, text + "\nx\n")
                self.refuses(BadText, {"line": 3}, read_lot, HEAD + "\n9 9 9\n9\n" + line)
                self.refuses(BadText, {"line": 0}, read_lot, line + "\n1 2")

    def test_ends_of_lines(self):
        self.refuses(BadText, {"line": 1}, read_lot, HEAD + "\n")
        self.refuses(BadText, {"line": 2}, read_lot, HEAD + "\n1 2\n")
        self.refuses(BadText, {"line": 1}, read_lot, HEAD + "\n\n1 2")
        self.refuses(BadText, {"line": 0}, read_lot, "\n" + HEAD + "\n1 2")
        self.refuses(BadText, {"line": 0}, read_lot, "")
        self.refuses(BadText, {"line": 1}, read_lot, HEAD + "\n1\t2")
        self.refuses(BadText, {"line": 0}, read_lot, HEAD + "\t\n1 2")
        # Only a line feed ends a line.
        self.refuses(BadText, {"line": 1}, read_lot, HEAD + "\n1 2\x0c3 4")
        self.refuses(BadText, {"line": 1}, read_lot, HEAD + "\n1 2\r\n3 4")

    def test_line_0_first(self):
        self.refuses(BadText, {"line": 0}, read_lot, "2: 1 1 01\nx")
        self.refuses(BadText, {"line": 0}, read_lot, "1 2\n2: 1 1 1")
        for text, what in (("5: 1 1 1", "prime"), ("2: 1", "modulus"), ("3: 1 1 1 1 1", "size"),
                           ("2: 1 0 1", "divisor")):
            for more in ("", "\n", "\nx", "\n1 2", "\n9 9 9"):
                self.refuses(BadField, {"what": what}, read_lot, text + more)

    def test_errors_of_lots(self):
        """Every line is of its form; then the columns are those of the first member."""
        for field in FIELDS:
            self.refuses(BadLot, {"what": "none"}, read_lot, field_text(field))
        self.refuses(BadLot, {"what": "columns"}, read_lot, HEAD + "\n1 2 3")
        self.refuses(BadLot, {"what": "columns"}, read_lot, HEAD + "\n1 2 9\n1")
        self.refuses(BadLot, {"what": "word"}, read_lot, HEAD + "\n1 2\n1")
        self.refuses(BadLot, {"what": "word"}, read_lot, HEAD + "\n1\n1 2")
        self.refuses(BadLot, {"what": "word"}, read_lot, HEAD + "\n1 2\n1 4")
        self.refuses(BadLot, {"what": "word"}, read_lot, HEAD + "\n999 2")
        self.refuses(BadLot, {"what": "many"}, read_lot, HEAD + "\n1 2" * 257)
        self.refuses(BadLot, {"what": "many"}, read_lot, HEAD + "\n1 2" + "\n9" * 256)
        self.refuses(BadLot, {"what": "columns"}, read_lot, HEAD + "\n1 2 3" * 257)
        self.assertEqual(read_lot(HEAD + "\n1 2" * 256), Lot(FOUR, 2, [(1, 2)]))

    def test_form_ahead_of_lots(self):
        self.refuses(BadText, {"line": 3}, read_lot, HEAD + "\n1 2 3\n9 9\n01")
        self.refuses(BadText, {"line": 258}, read_lot, HEAD + "\n1 2" * 257 + "\n")

    def test_three_figures(self):
        self.refuses(BadLot, {"what": "word"}, read_lot, "3: 1 0 1\n100 8")
        self.refuses(BadText, {"line": 1}, read_lot, "3: 1 0 1\n1000 8")
        self.assertEqual(read_lot("3: 1 0 1\n0 8\n8 0"), Lot(NINE, 2, [(0, 8), (8, 0)]))


if __name__ == "__main__":
    unittest.main()
