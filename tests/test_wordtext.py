"""wordtext.py: [1.10]."""

import unittest

from lowerwords.errors import BadLetters, BadText, BadWord
from lowerwords.wordtext import word_from_text, word_text
from tests.support import BAD_SIZES, NO_NUMBERS, SIZES, Case, some_words

NO_TEXTS = (None, True, 0, 1.0, b"", b"01", ["0", "1"], ("0", "1"), {}, object())


class WordTexts(Case):
    def assert_bad(self, index, letters, text):
        """The text goes wrong at the index."""
        self.assert_error(BadText, {"index": index}, word_from_text, letters, text)

    def test_texts_there_and_back(self):
        for letters in SIZES:
            for word in some_words(letters, 100, 30):
                due = "".join("1" if word // 2 ** place % 2 else "0" for place in range(2 ** letters))
                self.assert_same(word_text(letters, word), due)
                self.assert_same(word_from_text(letters, due), word)

    def test_known_texts(self):
        self.assert_same(word_text(3, 150), "01101001")
        self.assert_same(word_text(3, 1), "10000000")
        self.assert_same(word_from_text(2, "0001"), 8)

    def test_wrong_words_and_letters(self):
        for letters in SIZES:
            for thing in NO_NUMBERS + (-1, 2 ** 2 ** letters):
                self.assert_error(BadWord, {"index": 0}, word_text, letters, thing)
        for letters in BAD_SIZES:
            self.assert_error(BadLetters, {}, word_text, letters, -1)
            self.assert_error(BadLetters, {}, word_from_text, letters, None)

    def test_what_is_no_string(self):
        for letters in SIZES:
            for thing in NO_TEXTS:
                self.assert_bad(0, letters, thing)

    def test_another_sign(self):
        for letters in SIZES:
            many = 2 ** letters
            for sign in "2 -+ao\n\u0661":
                for index in range(many):
                    self.assert_bad(index, letters, "1" * index + sign + "0" * (many - index - 1))
                    # The first wrong sign counts, also in a text that is too short or too long.
                    self.assert_bad(index, letters, "1" * index + sign)
                    self.assert_bad(index, letters, "1" * index + sign + "x" * many)

    def test_a_sign_too_many(self):
        for letters in SIZES:
            for more in ("0", "1", "x", " ", "01", "0x"):
                self.assert_bad(2 ** letters, letters, "01" * 2 ** (letters - 1) + more)

    def test_too_short(self):
        for letters in SIZES:
            for length in range(2 ** letters):
                self.assert_bad(length, letters, "1" * length)


if __name__ == "__main__":
    unittest.main()
