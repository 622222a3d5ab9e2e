"""choicetext.py: [1.9]."""

import unittest

from lowerwords.choices import Choice
from lowerwords.choicetext import choice_from_text, choice_text, heap_from_text, heap_text
from lowerwords.errors import BadHeap, BadLetters, BadText
from tests.support import BAD_SIZES, NO_NUMBERS, SIZES, Case, letter_set, some_heap_sets

NO_TEXTS = (None, True, 0, 1.0, b"", b"1:", ["1:"], ("1", ":"), {}, object())


class HeapTexts(Case):
    def test_texts_there_and_back(self):
        for heap in range(32):
            due = "".join(sorted(str(letter) for letter in letter_set(heap))) or "-"
            self.assert_same(heap_text(heap), due)
            for letters in SIZES:
                if heap < 2 ** letters:
                    self.assert_same(heap_from_text(letters, due), heap)
                else:
                    self.assert_error(BadText, {"index": 0}, heap_from_text, letters, due)

    def test_known_texts(self):
        self.assert_same([heap_text(heap) for heap in (0, 1, 5, 31)], ["-", "0", "02", "01234"])

    def test_wrong_heaps(self):
        for thing in NO_NUMBERS + (-1, 32, 10 ** 30):
            self.assert_error(BadHeap, {"index": 0}, heap_text, thing)

    def test_what_is_no_text_of_a_heap(self):
        wrong = ("", " ", "--", "-0", "0-", " 0", "0 ", "0 1", "10", "00", "011", "5", "05", "a", "+", "0+", "\u0661")
        for letters in SIZES:
            for thing in wrong + NO_TEXTS:
                self.assert_error(BadText, {"index": 0}, heap_from_text, letters, thing)

    def test_what_only_says_that_it_equals_a_text_is_none(self):
        class Equal:
            def __eq__(self, other):
                return True

        self.assert_error(BadText, {"index": 0}, heap_from_text, 3, Equal())

    def test_bad_letters_come_first(self):
        for letters in BAD_SIZES:
            for thing in ("-", "x", None):
                self.assert_error(BadLetters, {}, heap_from_text, letters, thing)


class ChoiceTexts(Case):
    def test_texts_there_and_back(self):
        for letters in SIZES:
            for heaps in some_heap_sets(letters, 25, 21):
                choice = Choice(letters, heaps)
                due = str(letters) + ":" + "".join(" " + heap_text(heap) for heap in heaps)
                self.assert_same(choice_text(choice), due)
                self.assert_alike(choice_from_text(due), choice)

    def test_known_texts(self):
        self.assert_same(choice_text(Choice(3, (0, 1, 2, 3, 5))), "3: - 0 1 01 02")
        self.assert_same(choice_text(Choice(2, ())), "2:")
        self.assert_alike(choice_from_text("3: - 0 1 01 02"), Choice(3, (0, 1, 2, 3, 5)))
        self.assert_alike(choice_from_text("2:"), Choice(2, ()))

    def assert_bad(self, index, text):
        """The text goes wrong at the index."""
        self.assert_error(BadText, {"index": index}, choice_from_text, text)

    def test_a_wrong_beginning(self):
        for text in NO_TEXTS + ("", ":", "2", "0:", "6:", "9: 0", "2 :", " 2:", "a:", "12:", "-1:", "2; 0", "\u0662:"):
            self.assert_bad(0, text)

    def test_no_blank_behind_the_colon(self):
        for text in ("2:0", "2:-", "2::", "2:\n", "2:\t0", "2:x 0", "5:01 2"):
            self.assert_bad(2, text)

    def test_empty_pieces(self):
        self.assert_bad(3, "2: ")
        self.assert_bad(3, "2:  ")
        self.assert_bad(3, "2:  0")
        self.assert_bad(5, "2: 0 ")
        self.assert_bad(5, "2: 0  1")
        self.assert_bad(9, "2: - 0 1 ")
        self.assert_bad(9, "2: - 0 1  01")

    def test_pieces_that_are_no_heaps_of_these_letters(self):
        for piece in ("2", "02", "x", "10", "00", "--", "0-", "-0", "0\n", "+", "0+", "\u0660"):
            self.assert_bad(3, "2: " + piece)
            self.assert_bad(5, "2: 0 " + piece + " 01 x")
            self.assert_bad(3, "2: " + piece + " 1")
        self.assert_bad(7, "3: 0 1 3")
        self.assert_bad(8, "3: 0 01 12x")

    def test_pieces_that_are_not_ascending(self):
        self.assert_bad(5, "2: 0 0")
        self.assert_bad(5, "2: - -")
        self.assert_bad(5, "2: 0 -")
        self.assert_bad(6, "2: 01 1")
        self.assert_bad(8, "2: 0 01 01 x")
        # Heap 3, {0, 1}, comes ahead of heap 4, {2}.
        self.assert_bad(5, "3: 2 01")
        self.assert_alike(choice_from_text("3: 01 2"), Choice(3, (3, 4)))

    def test_every_text_that_is_one_sign_off(self):
        signs = " -012:x"
        for heaps in some_heap_sets(2, 0, 0):
            text = choice_text(Choice(2, heaps))
            near = [text[:at] + text[at + 1:] for at in range(len(text))]
            near += [text[:at] + sign + text[at:] for at in range(len(text) + 1) for sign in signs]
            near += [text[:at] + sign + text[at + 1:] for at in range(len(text)) for sign in signs]
            for other in near:
                try:
                    found = choice_from_text(other)
                except BadText:
                    continue
                self.assertEqual(choice_text(found), other)


if __name__ == "__main__":
    unittest.main()
