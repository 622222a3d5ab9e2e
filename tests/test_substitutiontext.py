"""substitutiontext.py: [1.11]."""

import unittest

from lowerwords.errors import BadSubstitution, BadText
from lowerwords.substitutions import Substitution
from lowerwords.substitutiontext import substitution_from_text, substitution_text
from tests.support import SIZES, Case, letter_set
from tests.test_substitutions import plain_rows, some_rows

NO_TEXTS = (None, True, 0, 1.0, b"", b"1: 0", ["1: 0"], {}, object())


class SubstitutionTexts(Case):
    def assert_bad(self, index, text):
        """The text goes wrong at the index."""
        self.assert_error(BadText, {"index": index}, substitution_from_text, text)

    def test_texts_there_and_back(self):
        for letters in SIZES:
            for rows in some_rows(letters, 60, 90):
                due = f"{letters}:"
                for lot, bit in rows:
                    due += " " + "".join(str(letter) for letter in sorted(letter_set(lot))) + "+" * bit
                made = Substitution(letters, rows)
                self.assert_same(substitution_text(made), due)
                self.assert_alike(substitution_from_text(due), made)

    def test_known_texts(self):
        self.assert_same(substitution_text(Substitution(3, ((1, 0), (3, 1), (4, 0)))), "3: 0 01+ 2")
        self.assert_alike(substitution_from_text("3: 0 01+ 2"), Substitution(3, ((1, 0), (3, 1), (4, 0))))
        self.assert_alike(substitution_from_text("1: 0+"), Substitution(1, ((1, 1),)))
        self.assert_same(substitution_text(Substitution(5, plain_rows(5))), "5: 0 1 2 3 4")

    def test_a_wrong_beginning(self):
        for text in NO_TEXTS + ("", ":", "2", "0:", "6: 0", "2 : 0 1", " 2: 0 1", "12: 0", "2; 0 1", "\u0662: 0 1"):
            self.assert_bad(0, text)

    def test_no_blank_behind_the_colon(self):
        for text in ("2:0 1", "2:-", "2::", "2:\n", "2:+ 0 1", "1:0"):
            self.assert_bad(2, text)

    def test_a_bad_piece(self):
        for piece in ("", "-", "-+", "+", "2", "02", "x", "10", "00", "0++", "+0", "0+1", "0-", "\u0660", "0\n"):
            self.assert_bad(3, "2: " + piece)
            self.assert_bad(3, "2: " + piece + " 1")
            self.assert_bad(3, "2: " + piece + " x 0 1")
            self.assert_bad(5, "2: 0 " + piece)
            self.assert_bad(6, "2: 0+ " + piece + " 1")
        self.assert_bad(5, "2: 0  1")

    def test_a_piece_too_many(self):
        for piece in ("0", "1+", "-", "", "x", "01 0 1"):
            self.assert_bad(7, "2: 0 1 " + piece)
            self.assert_bad(5, "1: 0 " + piece)
            self.assert_bad(9, "2: 0+ 01 " + piece)
        # The first bad piece counts, be it bad by itself or one too many.
        self.assert_bad(5, "2: 0 x 1")
        # Too many pieces are told ahead of lots that are not one to one.
        self.assert_bad(7, "2: 0 0 1")

    def test_pieces_missing(self):
        self.assert_bad(2, "2:")
        self.assert_bad(2, "1:")
        self.assert_bad(4, "2: 0")
        self.assert_bad(5, "2: 0+")
        self.assert_bad(8, "5: 0 0 0")
        self.assert_bad(10, "5: 0 1 2 3")

    def test_not_one_to_one(self):
        for index, text in (
            (1, "2: 0 0"),
            (1, "2: 01 01+"),
            (2, "3: 0 1 01"),
            (2, "3: 01 12 02+"),
            (1, "5: 4 4 4 4 4"),
            (4, "5: 01 12 23 34 04"),
        ):
            told = {"what": "once", "index": index}
            self.assert_error(BadSubstitution, told, substitution_from_text, text)

    def test_every_text_that_is_one_sign_off(self):
        for rows in some_rows(2, 0, 0)[::3]:
            text = substitution_text(Substitution(2, rows))
            near = [text[:at] + text[at + 1:] for at in range(len(text))]
            for sign in " -012:+x":
                near += [text[:at] + sign + text[at:] for at in range(len(text) + 1)]
                near += [text[:at] + sign + text[at + 1:] for at in range(len(text))]
            for other in near:
                try:
                    found = substitution_from_text(other)
                except (BadText, BadSubstitution):
                    continue
                self.assertEqual(substitution_text(found), other)


if __name__ == "__main__":
    unittest.main()
