"""halves.py: [8.1] (a) and (b), [8.2] to [8.7], [8.11]."""

import unittest

from lowerwords.choices import Choice
from lowerwords.errors import BadBit, BadHalves, BadLetter, BadLetters, BadWord, OtherLetters
from lowerwords.falling import closed_by, closure_of, first_gap, is_falling
from lowerwords.halves import (
    HalfGap,
    half_words,
    halves_gap,
    halves_of,
    joined_halves,
    joined_words,
    shorten,
    strike,
    strike_word,
    widen_word,
)
from lowerwords.leasts import least_weight
from lowerwords.rests import rest_of
from tests.support import (
    BAD_SIZES,
    NO_NUMBERS,
    SIZES,
    Case,
    chance,
    code_of,
    falling_sets,
    some_heap_sets,
    some_words,
    subset_sets,
)


def choices_of(letters, many, seed):
    """Choices of these letters: all of few letters, some of more, closed and falling ones among them."""
    sets = list(subset_sets(letters)) if letters < 3 else some_heap_sets(letters, many, seed)
    for heaps in sets:
        yield Choice(letters, heaps)
        if letters > 2:
            yield closed_by(Choice(letters, heaps))
            yield closure_of(Choice(letters, heaps[:2]))


def value(word, place):
    """The value of a word at a place."""
    return word // 2 ** place % 2


def word_with(values):
    """The word with these values, place 0 first."""
    return sum(2 ** place for place, one in enumerate(values) if one)


def struck_by_places(letters, word, letter, bit):
    """The word of the values at the places where the letter has the bit."""
    return word_with([value(word, place) for place in range(2 ** letters) if place >> letter & 1 == bit])


class Results(Case):
    def test_result(self):
        self.assert_result(HalfGap, ("what", "heap", "missing"))


class HalfWords(Case):
    def test_against_all_places(self):
        for letters in SIZES[1:]:
            half = 2 ** (letters - 1)
            for word in some_words(letters, 60, 530):
                lower = word_with([value(word, place) for place in range(half)])
                both = word_with([value(word, place) ^ value(word, place + half) for place in range(half)])
                self.assert_same(half_words(letters, word), (lower, both))

    def test_there_and_back(self):
        for letters in SIZES[1:]:
            for word in some_words(letters, 60, 531):
                self.assert_same(joined_words(letters - 1, *half_words(letters, word)), word)
        for letters in SIZES[:4]:
            for first in some_words(letters, 30, 532)[::1 if letters < 3 else 9]:
                for second in some_words(letters, 30, 533)[::1 if letters < 3 else 7]:
                    self.assert_same(half_words(letters + 1, joined_words(letters, first, second)), (first, second))

    def test_the_example(self):
        self.assert_same(half_words(2, 7), (3, 2))
        self.assert_same(joined_words(1, 3, 2), 7)

    def test_errors(self):
        for bad in BAD_SIZES + (1,):
            for word in (0, None, -1):
                self.assert_error(BadLetters, {}, half_words, bad, word)
        for bad in BAD_SIZES + (5,):
            for first, second in ((0, 0), (None, 0), (-1, None)):
                self.assert_error(BadLetters, {}, joined_words, bad, first, second)
        for letters in SIZES[1:]:
            for bad in NO_NUMBERS + (-1, 2 ** 2 ** letters):
                self.assert_error(BadWord, {"index": 0}, half_words, letters, bad)
        for letters in SIZES[:4]:
            for bad in NO_NUMBERS + (-1, 2 ** 2 ** letters):
                self.assert_error(BadWord, {"index": 0}, joined_words, letters, bad, 0)
                self.assert_error(BadWord, {"index": 0}, joined_words, letters, 0, bad)


class Halves(Case):
    def test_which_heaps(self):
        for letters in SIZES[1:]:
            high = 2 ** (letters - 1)
            for choice in choices_of(letters, 30, 534):
                first = tuple(heap for heap in choice.heaps if heap < high)
                second = tuple(heap - high for heap in choice.heaps if heap >= high)
                halves = halves_of(choice)
                self.assertIs(halves.__class__, tuple)
                self.assertEqual(len(halves), 2)
                self.assert_alike(halves[0], Choice(letters - 1, first))
                self.assert_alike(halves[1], Choice(letters - 1, second))
                self.assert_alike(joined_halves(*halves), choice)

    def test_joined_and_taken_apart(self):
        for letters in SIZES[:4]:
            for first in choices_of(letters, 6, 535):
                for second in list(choices_of(letters, 6, 536))[::3]:
                    joined = joined_halves(first, second)
                    self.assertEqual(joined.letters, letters + 1)
                    self.assertEqual(list(halves_of(joined)), [first, second])

    def test_the_words_are_those_put_together(self):
        for letters in (2, 3, 4):
            for choice in choices_of(letters, 12, 537):
                if choice.size > 8:
                    continue
                first, second = [code_of(letters - 1, half.heaps) for half in halves_of(choice)]
                joined = {joined_words(letters - 1, one, other) for one in first for other in second}
                self.assertEqual(joined, code_of(letters, choice.heaps))
                self.assertEqual(len(joined), len(first) * len(second))

    def test_the_least_weight(self):
        for letters in SIZES[1:]:
            for choice in choices_of(letters, 20, 538):
                first, second = halves_of(choice)
                weights = [2 * least_weight(first)] if first.size else []
                weights += [least_weight(second)] if second.size else []
                if weights:
                    self.assertEqual(least_weight(choice), min(weights))

    def test_the_rest_of_closed_choices(self):
        for letters in SIZES[1:]:
            for choice in choices_of(letters, 20, 539):
                closed = closed_by(choice)
                first, second = halves_of(closed)
                self.assertEqual(list(halves_of(rest_of(closed))), [rest_of(second), rest_of(first)])

    def test_what_falls_stays_falling(self):
        for letters in SIZES[1:]:
            for heaps in falling_sets(letters):
                for half in halves_of(Choice(letters, heaps)):
                    self.assertTrue(is_falling(half))

    def test_errors(self):
        for heaps in ((), (0,), (1,), (0, 1)):
            self.assert_error(BadLetters, {}, halves_of, Choice(1, heaps))
        for call in (joined_halves, halves_gap):
            for heaps in ((), (1,), (0, 1)):
                for other in SIZES:
                    self.assert_error(BadLetters, {}, call, Choice(5, heaps), Choice(other, heaps))
                for letters in SIZES[:4]:
                    for other in SIZES:
                        if other != letters:
                            self.assert_error(OtherLetters, {"letters": other}, call, Choice(letters, heaps),
                                              Choice(other, heaps))
        for must_fall in (True, False):
            self.assert_error(BadLetters, {}, joined_halves, Choice(5, (1,)), Choice(4, ()), must_fall=must_fall)
            self.assert_error(OtherLetters, {"letters": 3}, joined_halves, Choice(2, (1,)), Choice(3, ()),
                              must_fall=must_fall)
        with self.assertRaises(TypeError):
            joined_halves(Choice(2, ()), Choice(2, ()), True)


class Gaps(Case):
    def due_gap(self, first, second):
        """The gap straight from the document, as a tuple, or None."""
        if first_gap(first) is not None:
            return ("first", *first_gap(first))
        if first_gap(second) is not None:
            return ("second", *first_gap(second))
        for heap in sorted(second.heaps):
            if heap not in first.heaps:
                return "within", heap, heap
            for letter in range(first.letters):
                if heap >> letter & 1 == 0 and heap + 2 ** letter not in first.heaps:
                    return "further", heap, heap + 2 ** letter
        return None

    def assert_gap(self, first, second):
        """The gap is the due one, and there is none exactly if the joined choice is falling."""
        due = self.due_gap(first, second)
        result = halves_gap(first, second)
        joined = joined_halves(first, second)
        self.assertIs(is_falling(joined), due is None)
        self.assert_alike(joined_halves(first, second, must_fall=False), joined)
        if due is None:
            self.assertIsNone(result)
            self.assert_alike(joined_halves(first, second, must_fall=True), joined)
            return None
        self.assert_alike(result, HalfGap(*due))
        self.assert_same((result.what, result.heap, result.missing), due)
        self.assert_error(BadHalves, {"what": due[0]}, joined_halves, first, second, must_fall=True)
        return due[0]

    def test_all_of_few_letters(self):
        met = set()
        for letters in (1, 2):
            for heaps in subset_sets(letters):
                for others in subset_sets(letters):
                    met.add(self.assert_gap(Choice(letters, heaps), Choice(letters, others)))
        self.assertEqual(met, {None, "first", "second", "within", "further"})

    def test_more_letters(self):
        for letters in (3, 4):
            met = set()
            for first in choices_of(letters, 8, 540):
                for second in list(choices_of(letters, 8, 541))[::5]:
                    met.add(self.assert_gap(first, second))
            falling = falling_sets(letters)
            for heaps in falling:
                for others in falling:
                    met.add(self.assert_gap(Choice(letters, heaps), Choice(letters, others)))
            self.assertEqual(met, {None, "first", "second", "within", "further"})

    def test_each_tag_ahead_of_the_later_ones(self):
        self.assert_alike(halves_gap(Choice(2, (0, 2)), Choice(2, (3,))), HalfGap("first", 2, 1))
        self.assert_alike(halves_gap(Choice(2, (1,)), Choice(2, (3,))), HalfGap("first", 1, 0))
        self.assert_alike(halves_gap(Choice(2, ()), Choice(2, (3,))), HalfGap("second", 3, 1))
        self.assert_alike(halves_gap(Choice(2, ()), Choice(2, (0, 1))), HalfGap("within", 0, 0))
        self.assert_alike(halves_gap(Choice(2, (0, 1, 2)), Choice(2, (0, 1, 2, 3))), HalfGap("further", 1, 3))
        self.assert_alike(halves_gap(Choice(2, (0,)), Choice(2, (0, 1))), HalfGap("further", 0, 1))
        self.assert_alike(halves_gap(Choice(2, (0, 1)), Choice(2, (0, 1))), HalfGap("further", 0, 2))
        self.assertIsNone(halves_gap(Choice(2, (0, 1, 2)), Choice(2, (0,))))
        self.assertIsNone(halves_gap(Choice(4, ()), Choice(4, ())))


class StruckWords(Case):
    def test_against_all_places(self):
        for letters in SIZES[1:]:
            for letter in range(letters):
                for bit in (0, 1):
                    for word in some_words(letters, 25, 542):
                        self.assert_same(strike_word(letters, word, letter, bit),
                                         struck_by_places(letters, word, letter, bit))

    def test_widened_words(self):
        for letters in SIZES[1:]:
            for letter in range(letters):
                for bit in (0, 1):
                    for word in some_words(letters - 1, 25, 543):
                        wide = widen_word(letters, word, letter, bit)
                        self.assertIs(wide.__class__, int)
                        self.assertEqual(struck_by_places(letters, wide, letter, bit), word)
                        self.assertEqual(struck_by_places(letters, wide, letter, 1 - bit), 0)
                        self.assertLess(wide, 2 ** 2 ** letters)

    def test_plain_cases(self):
        self.assert_same([strike_word(2, 7, letter, bit) for letter in (0, 1) for bit in (0, 1)], [3, 1, 3, 1])
        self.assert_same([widen_word(2, 1, letter, bit) for letter in (0, 1) for bit in (0, 1)], [1, 2, 1, 4])
        self.assert_same([widen_word(2, 2, letter, bit) for letter in (0, 1) for bit in (0, 1)], [4, 8, 2, 8])

    def test_errors(self):
        for bad in BAD_SIZES + (1,):
            for further in ((0, 0, 0), (None, 9, 9), (-1, 0, 0)):
                self.assert_error(BadLetters, {}, strike_word, bad, *further)
                self.assert_error(BadLetters, {}, widen_word, bad, *further)
        for letters in SIZES[1:]:
            for further in ((0, 0), (None, None)):
                for bad in NO_NUMBERS + (-1, 2 ** 2 ** letters):
                    self.assert_error(BadWord, {"index": 0}, strike_word, letters, bad, *further)
                for bad in NO_NUMBERS + (-1, 2 ** 2 ** (letters - 1)):
                    self.assert_error(BadWord, {"index": 0}, widen_word, letters, bad, *further)
            for call in (strike_word, widen_word):
                for bad in NO_NUMBERS + (-1, letters):
                    self.assert_error(BadLetter, {}, call, letters, 1, bad, 0)
                    self.assert_error(BadLetter, {}, call, letters, 1, bad, None)
                for bad in NO_NUMBERS + (-1, 2):
                    self.assert_error(BadBit, {}, call, letters, 1, letters - 1, bad)


class StruckChoices(Case):
    def test_against_all_words_of_the_code(self):
        for letters in (2, 3, 4):
            for choice in choices_of(letters, 10, 544):
                if choice.size > 8:
                    continue
                code = code_of(letters, choice.heaps)
                for letter in range(letters):
                    for bit in (0, 1):
                        struck = strike(choice, letter, bit)
                        words = {struck_by_places(letters, word, letter, bit) for word in code}
                        self.assertEqual(struck.letters, letters - 1)
                        self.assertEqual(code_of(letters - 1, struck.heaps), words)
                        short = shorten(choice, letter, bit)
                        alone = [word for word in code if not struck_by_places(letters, word, letter, 1 - bit)]
                        self.assertEqual(short.letters, letters - 1)
                        self.assertEqual(code_of(letters - 1, short.heaps),
                                         {struck_by_places(letters, word, letter, bit) for word in alone})

    def test_the_heaps_of_five_letters(self):
        for choice in choices_of(5, 30, 545):
            for letter in range(5):
                def renamed(heap):
                    return sum(2 ** (old - (old > letter)) for old in range(5) if heap >> old & 1 and old != letter)

                without = {heap for heap in choice.heaps if not heap >> letter & 1}
                having = set(choice.heaps) - without
                due = [sorted({renamed(heap) for heap in heaps}) for heaps in (
                    without, choice.heaps, {heap for heap in without if heap + 2 ** letter in having}, having)]
                self.assert_alike(strike(choice, letter, 0), Choice(4, due[0]))
                self.assert_alike(strike(choice, letter, 1), Choice(4, due[1]))
                self.assert_alike(shorten(choice, letter, 0), Choice(4, due[2]))
                self.assert_alike(shorten(choice, letter, 1), Choice(4, due[3]))

    def test_widened_words_are_in_the_code_exactly_if_shortened(self):
        source = chance(546)
        for letters in (2, 3):
            for choice in choices_of(letters, 10, 547):
                code = code_of(letters, choice.heaps)
                for letter in range(letters):
                    for bit in (0, 1):
                        short = code_of(letters - 1, shorten(choice, letter, bit).heaps)
                        for word in source.sample(range(2 ** 2 ** (letters - 1)), 4):
                            self.assertIs(word in short, widen_word(letters, word, letter, bit) in code)

    def test_striking_and_shortening_change_places_in_rest_codes(self):
        for letters in SIZES[1:]:
            for choice in choices_of(letters, 8, 548):
                closed = closed_by(choice)
                for letter in range(letters):
                    for bit in (0, 1):
                        self.assert_alike(rest_of(strike(closed, letter, bit)), shorten(rest_of(closed), letter, bit))
                        self.assert_alike(rest_of(shorten(closed, letter, bit)), strike(rest_of(closed), letter, bit))

    def test_what_falls_stays_falling(self):
        for letters in SIZES[1:]:
            for heaps in falling_sets(letters):
                for letter in range(letters):
                    for bit in (0, 1):
                        self.assertTrue(is_falling(strike(Choice(letters, heaps), letter, bit)))
                        self.assertTrue(is_falling(shorten(Choice(letters, heaps), letter, bit)))

    def test_the_example(self):
        choice = Choice(3, (0, 1, 2, 3, 4, 5))
        first, second = halves_of(choice)
        self.assert_same((first.heaps, second.heaps), ((0, 1, 2, 3), (0, 1)))
        self.assert_alike(strike(choice, 0, 1), Choice(2, (0, 1, 2)))
        self.assert_alike(shorten(choice, 2, 1), Choice(2, (0, 1)))

    def test_errors(self):
        for call in (strike, shorten):
            for heaps in ((), (0,), (0, 1)):
                for further in ((0, 0), (None, None)):
                    self.assert_error(BadLetters, {}, call, Choice(1, heaps), *further)
                for letters in SIZES[1:]:
                    choice = Choice(letters, heaps)
                    for bad in NO_NUMBERS + (-1, letters):
                        self.assert_error(BadLetter, {}, call, choice, bad, 0)
                        self.assert_error(BadLetter, {}, call, choice, bad, None)
                    for bad in NO_NUMBERS + (-1, 2):
                        self.assert_error(BadBit, {}, call, choice, letters - 1, bad)


if __name__ == "__main__":
    unittest.main()
