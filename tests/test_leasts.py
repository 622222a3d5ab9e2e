"""leasts.py: [4.1], [4.5] to [4.7]."""

import unittest

from lowerwords.choices import Choice
from lowerwords.errors import BadHeap, BadLetters, BadNumber, BadWord, EmptyChoice, NotClosed, NotFalling, NotLeast
from lowerwords.flats import flat_word
from lowerwords.leasts import (
    all_least,
    is_least,
    least_at,
    least_count,
    least_forms,
    least_number,
    least_weight,
    under_count,
)
from lowerwords.words import heaps_of
from tests.support import (
    BAD_SIZES,
    NO_NUMBERS,
    SIZES,
    Case,
    all_below_by_descents,
    chance,
    code_of,
    falling_sets,
    letter_set,
    some_heap_sets,
    some_words,
    subset_sets,
    weight,
)
from tests.test_flats import FLATS

LEAST = {letters: [heaps for heaps in falling_sets(letters) if heaps] for letters in SIZES}


def all_heaps_up_to(letters, top):
    """All heaps of at most so many letters."""
    return [heap for heap in range(2 ** letters) if weight(heap) <= top]


def some_falling(many=12):
    """Falling choices other than the empty one: all of few letters, some of more."""
    for letters in SIZES:
        sets = LEAST[letters]
        for heaps in sets if letters < 4 else sets[::max(1, len(sets) // many)] + sets[-1:]:
            yield Choice(letters, heaps)


def top_of(heaps):
    """The greatest number of letters of a heap."""
    return max(weight(heap) for heap in heaps)


def free_letters(heap, leading):
    """The letters below a leading letter that are not in the leading heap."""
    return [letter for letter in range(leading) if letter not in letter_set(heap)]


def forms_by_bits(heap, number):
    """The reduced forms with this leading heap and the free bits of a number, straight from the document."""
    places = [
        (leading, letter)
        for leading in sorted(letter_set(heap))
        for letter in free_letters(heap, leading) + ["bit"]
    ]
    bits = {place: number >> index & 1 for index, place in enumerate(places)}
    forms = []
    for leading in sorted(letter_set(heap)):
        lot = 2 ** leading + sum(2 ** letter * bits[leading, letter] for letter in free_letters(heap, leading))
        forms.append((lot, bits[leading, "bit"]))
    assert number < 2 ** len(places)
    return tuple(forms)


def many_free_bits(heap):
    """How many free bits a leading heap has."""
    return sum(len(free_letters(heap, leading)) + 1 for leading in letter_set(heap))


def rows_of_forms(choice):
    """The reduced forms of all least words of a falling choice, in the order of their numbers."""
    top = top_of(choice.heaps)
    heaps = [heap for heap in choice.heaps if weight(heap) == top]
    return [forms_by_bits(heap, number) for heap in heaps for number in range(2 ** many_free_bits(heap))]


class LeastWeight(Case):
    def test_any_choice_of_few_letters(self):
        for letters in (1, 2, 3):
            for heaps in subset_sets(letters):
                if not heaps:
                    continue
                choice = Choice(letters, heaps)
                code = code_of(letters, heaps)
                due = min(weight(word) for word in code if word)
                self.assert_same(least_weight(choice), due)
                for word in range(0, 2 ** 2 ** letters, 1 if letters < 3 else 3):
                    self.assertIs(is_least(choice, word), word in code and weight(word) == due)

    def test_more_letters(self):
        for letters in (4, 5):
            for heaps in some_heap_sets(letters, 30, 360):
                if not heaps:
                    continue
                choice = Choice(letters, heaps)
                self.assert_same(least_weight(choice), 2 ** (letters - top_of(heaps)))
                if len(heaps) > 10:
                    continue
                code = code_of(letters, heaps)
                self.assertEqual(least_weight(choice), min(weight(word) for word in code if word))
                for word in list(code)[:40] + some_words(letters, 20, 361):
                    due = word in code and weight(word) == least_weight(choice)
                    self.assertIs(is_least(choice, word), due)

    def test_a_word_of_this_weight_outside_the_code_is_no_least_word(self):
        self.assertIs(is_least(Choice(2, (1,)), 0b1100), False)
        self.assertIs(is_least(Choice(2, (1,)), 0b1010), True)
        self.assertIs(is_least(Choice(2, (0, 1)), 15), False)
        self.assertIs(is_least(Choice(2, (0,)), 15), True)
        self.assertIs(is_least(Choice(2, (0,)), 0), False)

    def test_errors(self):
        for letters in SIZES:
            empty = Choice(letters, ())
            self.assert_error(EmptyChoice, {}, least_weight, empty)
            for bad in NO_NUMBERS + (-1, 2 ** 2 ** letters):
                self.assert_error(EmptyChoice, {}, is_least, empty, bad)
                self.assert_error(BadWord, {"index": 0}, is_least, Choice(letters, (1,)), bad)
            self.assert_error(EmptyChoice, {}, is_least, empty, 0)


class UnderCount(Case):
    def test_all_heaps(self):
        for letters in SIZES:
            for heap in range(2 ** letters):
                self.assert_same(under_count(letters, heap), 2 ** many_free_bits(heap))

    def test_flats_of_few_letters(self):
        for letters in (1, 2, 3):
            for heap in range(2 ** letters):
                flats = [forms for forms in FLATS[letters].values() if heap == sum(
                    1 << (lot.bit_length() - 1) for lot, _ in forms)]
                self.assert_same(under_count(letters, heap), len(flats))

    def test_errors(self):
        for letters in BAD_SIZES:
            self.assert_error(BadLetters, {}, under_count, letters, 0)
            self.assert_error(BadLetters, {}, under_count, letters, None)
        for letters in SIZES:
            for bad in NO_NUMBERS + (-1, 2 ** letters):
                self.assert_error(BadHeap, {"index": 0}, under_count, letters, bad)


class LeastWords(Case):
    def test_all_of_them_against_the_code(self):
        for letters in (1, 2, 3, 4):
            for heaps in LEAST[letters]:
                if len(heaps) > 11:
                    continue
                choice = Choice(letters, heaps)
                due = {word for word in code_of(letters, heaps) if weight(word) == 2 ** (letters - top_of(heaps))}
                words = list(all_least(choice))
                self.assertEqual(len(words), len(set(words)))
                self.assertEqual(set(words), due)
                self.assert_same(least_count(choice), len(due))

    def test_numbers_there_and_back(self):
        for choice in some_falling():
            rows = rows_of_forms(choice)
            self.assert_same(least_count(choice), len(rows))
            self.assert_same(list(all_least(choice)), [flat_word(choice.letters, forms) for forms in rows])
            step = 1 if choice.letters < 4 else max(1, len(rows) // 25)
            for number in sorted({*range(0, len(rows), step), len(rows) - 1}):
                forms = rows[number]
                self.assert_same(least_forms(choice, number), forms)
                word = least_at(choice, number)
                self.assert_same(word, flat_word(choice.letters, forms))
                self.assert_same(least_number(choice, word), number)
                self.assertIs(is_least(choice, word), True)

    def test_the_heaps_of_a_least_word(self):
        for choice in some_falling(6):
            for number in range(0, least_count(choice), 7):
                leading = sum(1 << (lot.bit_length() - 1) for lot, _ in least_forms(choice, number))
                heaps = set(heaps_of(choice.letters, least_at(choice, number)))
                self.assertIn(leading, heaps)
                self.assertLessEqual(heaps, all_below_by_descents(leading))

    def test_the_example_of_the_document(self):
        choice = Choice(3, (0, 1, 2, 3, 4, 5))
        self.assert_same(least_count(choice), 12)
        for number in range(12):
            leading = sum(1 << (lot.bit_length() - 1) for lot, _ in least_forms(choice, number))
            self.assertEqual(leading, 3 if number < 4 else 5)
        self.assert_same(least_forms(choice, 9), ((1, 1), (4, 1)))
        self.assert_same(least_at(choice, 9), 5)
        self.assert_same(least_number(choice, 5), 9)
        self.assert_same(list(all_least(choice))[9], 5)

    def test_heap_0_alone(self):
        for letters in SIZES:
            choice = Choice(letters, (0,))
            full = 2 ** 2 ** letters - 1
            self.assert_same(least_count(choice), 1)
            self.assert_same(least_forms(choice, 0), ())
            self.assert_same(least_at(choice, 0), full)
            self.assert_same(least_number(choice, full), 0)
            self.assert_same(list(all_least(choice)), [full])

    def test_many_least_words(self):
        self.assert_same(least_count(Choice(5, all_heaps_up_to(5, 3))), 1240)
        self.assert_same(least_count(Choice(5, list(range(32)))), 32)


class Errors(Case):
    def calls(self, number=0, word=0):
        """The functions of falling choices with their further arguments."""
        return (
            (least_count, ()),
            (least_at, (number,)),
            (least_forms, (number,)),
            (least_number, (word,)),
            (list_least, ()),
        )

    def test_the_choice_comes_first(self):
        for further in (0, -1, None):
            for call, told in self.calls(further, further):
                for letters in SIZES:
                    self.assert_error(EmptyChoice, {}, call, Choice(letters, ()), *told)
                    self.assert_error(NotClosed, {"heap": 1, "missing": 0}, call, Choice(letters, (1,)), *told)
                self.assert_error(NotClosed, {"heap": 3, "missing": 1}, call, Choice(2, (0, 2, 3)), *told)
                self.assert_error(NotFalling, {"heap": 4, "missing": 1}, call, Choice(3, (0, 4)), *told)
                # Heap 2 lacks heap 1 below it, but heap 12 lacks heap 8, and that is told first.
                self.assert_error(NotClosed, {"heap": 12, "missing": 8}, call, Choice(4, (0, 2, 4, 12)), *told)

    def test_bad_numbers(self):
        for choice in some_falling():
            most = least_count(choice) - 1
            for bad in NO_NUMBERS + (-1, most + 1, 10 ** 30):
                self.assert_error(BadNumber, {"most": most}, least_at, choice, bad)
                self.assert_error(BadNumber, {"most": most}, least_forms, choice, bad)

    def test_bad_words(self):
        for choice in some_falling():
            for bad in NO_NUMBERS + (-1, 2 ** 2 ** choice.letters):
                self.assert_error(BadWord, {"index": 0}, least_number, choice, bad)

    def test_words_that_are_no_least_words(self):
        source = chance(362)
        for choice in some_falling():
            words = set(all_least(choice))
            if choice.letters <= 3:
                others = [word for word in range(2 ** 2 ** choice.letters) if word not in words]
            else:
                others = [source.getrandbits(2 ** choice.letters) for _ in range(10)] + [0]
            for word in others:
                if word not in words:
                    self.assert_error(NotLeast, {}, least_number, choice, word)
        self.assert_error(NotLeast, {}, least_number, Choice(3, (0, 1)), 0b11110000)

    def test_the_words_of_any_choice_are_not_numbered(self):
        self.assertIs(is_least(Choice(3, (4,)), 240), True)
        self.assert_error(NotClosed, {"heap": 4, "missing": 0}, least_number, Choice(3, (4,)), 240)


def list_least(choice):
    """The generator, asked for its first items."""
    return list(all_least(choice))


if __name__ == "__main__":
    unittest.main()
