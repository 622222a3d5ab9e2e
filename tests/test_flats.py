"""flats.py: [4.2] to [4.4]."""

import itertools
import unittest

from lowerwords.errors import BadForms, BadLetters, BadPlaces, BadWord
from lowerwords.flats import (
    check_forms,
    flat_over,
    flat_word,
    form_word,
    forms_of,
    leading_heap,
    reduced_forms,
)
from tests.support import (
    BAD_SIZES,
    NO_NUMBERS,
    NO_SEQUENCES,
    SIZES,
    Case,
    all_sums,
    chance,
    letter_set,
    weight,
)

NO_FORMS = NO_NUMBERS + ((1,), (1, 0, 0), [1], (0, 0), (-1, 0), (1, 2), (1, -1), (True, 0), (1, False), (1, None),
                         ("1", 0), (1.0, 0), "10", {1: 0}, {1, 0}, ((1, 0),), (10 ** 30, 0))
# Each function of forms.
WITH_FORMS = (check_forms, reduced_forms, flat_word, leading_heap)


def value_of(form, place):
    """The value of a form at a place, letter by letter."""
    lot, bit = form
    return (len(letter_set(lot) & letter_set(place)) + bit) % 2


def word_by_values(letters, forms):
    """The word that is 1 where all the forms are 1."""
    return sum(2 ** place for place in range(2 ** letters) if all(value_of(form, place) for form in forms))


def is_reduced(forms):
    """Whether forms are ascending by leading letter, and each leading letter stands in one lot alone."""
    leading = [lot.bit_length() - 1 for lot, _ in forms]
    if leading != sorted(set(leading)):
        return False
    return all(sum(lot >> letter & 1 for lot, _ in forms) == 1 for letter in leading)


def all_reduced(letters):
    """For each word of a flat its one row of reduced forms, over all rows of forms."""
    every = list(itertools.product(range(1, 2 ** letters), (0, 1)))
    found = {}
    for many in range(letters + 1):
        for forms in itertools.combinations(every, many):
            if is_reduced(forms):
                word = word_by_values(letters, forms)
                assert word not in found
                found[word] = forms
    return found


FLATS = {letters: all_reduced(letters) for letters in (1, 2, 3)}


def chance_forms(letters, source):
    """Independent forms, some number of them."""
    forms = []
    for _ in range(source.randrange(letters + 1)):
        lot = source.randrange(2 ** letters)
        if lot not in all_sums(old for old, _ in forms):
            forms.append((lot, source.randrange(2)))
    return tuple(forms)


def some_forms(letters, many, seed):
    """All tuples of independent forms of few letters, some of more."""
    if letters <= 2:
        every = list(itertools.product(range(1, 2 ** letters), (0, 1)))
        rows = [row for length in range(letters + 1) for row in itertools.product(every, repeat=length)]
        return [row for row in rows if len(all_sums(lot for lot, _ in row)) == 2 ** len(row)]
    source = chance(seed)
    return [()] + [chance_forms(letters, source) for _ in range(many)]


class Forms(Case):
    def test_forms_in_their_order(self):
        for letters in SIZES:
            for forms in some_forms(letters, 40, 350):
                for passed in (forms, list(forms), [list(form) for form in forms], tuple(map(list, forms))):
                    self.assert_same(check_forms(letters, passed), forms)

    def test_bad_letters_come_first(self):
        for letters in BAD_SIZES:
            for call in WITH_FORMS:
                for forms in ((), None, ((1, 0),), ((0, 0),)):
                    self.assert_error(BadLetters, {}, call, letters, forms)
            for form in ((1, 0), None, (0, 0)):
                self.assert_error(BadLetters, {}, form_word, letters, form)

    def test_no_sequence(self):
        for call in WITH_FORMS:
            for letters in SIZES:
                for thing in NO_SEQUENCES + ({(1, 0)}, {(1, 0): 1}):
                    self.assert_error(BadForms, {"index": 0, "what": "form"}, call, letters, thing)

    def test_no_forms_at_their_index(self):
        for call in WITH_FORMS:
            for letters in SIZES:
                for bad in NO_FORMS + ((2 ** letters, 0),):
                    for index in range(letters):
                        forms = [(2 ** letter, 0) for letter in range(letters)]
                        forms[index] = bad
                        told = {"index": index, "what": "form"}
                        self.assert_error(BadForms, told, call, letters, forms)
                        self.assert_error(BadForms, told, call, letters, tuple(forms) + (None, (1, 0)))

    def test_forms_that_hang(self):
        for call in WITH_FORMS:
            for forms, index in (
                (((1, 0), (1, 0)), 1),
                (((1, 0), (1, 1)), 1),
                (((1, 0), (2, 1), (3, 0)), 2),
                (((6, 0), (5, 1), (3, 0), (4, 0)), 2),
                (((7, 0), (6, 1), (4, 0), (5, 0)), 3),
                (((3, 0), (3, 0), None), 1),
                (((4, 0), (1, 0), (2, 0), (7, 0), "no form"), 3),
            ):
                self.assert_error(BadForms, {"index": index, "what": "hang"}, call, 3, forms)
                self.assert_error(BadForms, {"index": index, "what": "hang"}, call, 3, list(forms))
            self.assert_error(BadForms, {"index": 1, "what": "form"}, call, 3, ((1, 0), (0, 0), (1, 0)))

    def test_more_forms_than_letters_are_refused(self):
        for letters in SIZES:
            forms = [(2 ** letter, 1) for letter in range(letters)]
            for lot in range(1, 2 ** letters):
                told = {"index": letters, "what": "hang"}
                self.assert_error(BadForms, told, check_forms, letters, forms + [(lot, 0)])

    def test_the_word_of_a_form(self):
        for letters in SIZES:
            for lot in range(1, 2 ** letters):
                for bit in (0, 1):
                    due = word_by_values(letters, ((lot, bit),))
                    self.assert_same(form_word(letters, (lot, bit)), due)
                    self.assert_same(form_word(letters, [lot, bit]), due)
            for bad in NO_FORMS + ((2 ** letters, 0),):
                self.assert_error(BadForms, {"index": 0, "what": "form"}, form_word, letters, bad)

    def test_nothing_passed_in_is_changed_or_kept(self):
        forms = [[5, 0], [4, 1]]
        checked = check_forms(3, forms)
        for call in WITH_FORMS:
            call(3, forms)
        self.assert_same(forms, [[5, 0], [4, 1]])
        forms[0][0] = 7
        self.assert_same(checked, ((5, 0), (4, 1)))


class Reduced(Case):
    def test_the_word_of_a_flat(self):
        for letters in SIZES:
            for forms in some_forms(letters, 60, 351):
                word = flat_word(letters, list(forms))
                self.assert_same(word, word_by_values(letters, forms))
                self.assertEqual(weight(word), 2 ** (letters - len(forms)))

    def test_reduced_forms_of_few_letters(self):
        for letters in (1, 2, 3):
            for forms in some_forms(letters, 300, 352):
                self.assert_same(reduced_forms(letters, forms), FLATS[letters][word_by_values(letters, forms)])

    def test_reduced_forms_of_more_letters(self):
        for letters in SIZES:
            for forms in some_forms(letters, 80, 353):
                found = reduced_forms(letters, forms)
                self.assertTrue(is_reduced(found))
                self.assertEqual(len(found), len(forms))
                self.assertEqual(word_by_values(letters, found), word_by_values(letters, forms))
                self.assert_same(reduced_forms(letters, found), found)
                self.assert_same(reduced_forms(letters, list(forms)[::-1]), found)

    def test_the_leading_heap(self):
        for letters in SIZES:
            for forms in some_forms(letters, 60, 354):
                due = sum({1 << (lot.bit_length() - 1) for lot, _ in reduced_forms(letters, forms)})
                self.assert_same(leading_heap(letters, list(forms)), due)
                self.assertEqual(weight(due), len(forms))
        self.assert_same(leading_heap(3, ((6, 0), (4, 0))), 6)
        self.assert_same(leading_heap(3, ((7, 1), (6, 0))), 5)

    def test_no_forms(self):
        for letters in SIZES:
            for none in ((), []):
                self.assert_same(check_forms(letters, none), ())
                self.assert_same(reduced_forms(letters, none), ())
                self.assert_same(flat_word(letters, none), 2 ** 2 ** letters - 1)
                self.assert_same(leading_heap(letters, none), 0)

    def test_bits(self):
        self.assert_same(reduced_forms(2, ((3, 0), (2, 0))), ((1, 1), (2, 0)))
        self.assert_same(reduced_forms(2, ((3, 1), (2, 0))), ((1, 0), (2, 0)))
        self.assert_same(reduced_forms(2, ((3, 0), (1, 1))), ((1, 1), (2, 0)))


class FormsOf(Case):
    def test_all_words_of_few_letters(self):
        for letters in (1, 2, 3):
            for word in range(2 ** 2 ** letters):
                self.assert_same(forms_of(letters, word), FLATS[letters].get(word))

    def test_more_letters(self):
        source = chance(355)
        for letters in (4, 5):
            full = 2 ** 2 ** letters - 1
            self.assertIsNone(forms_of(letters, 0))
            self.assert_same(forms_of(letters, full), ())
            self.assertIsNone(forms_of(letters, full - 1))
            for forms in some_forms(letters, 60, 356):
                word = word_by_values(letters, forms)
                self.assert_same(forms_of(letters, word), reduced_forms(letters, forms))
                if len(forms) < letters:
                    # With a place more or less it is no flat, but for one place less of two.
                    place = source.randrange(2 ** letters)
                    other = word ^ 1 << place
                    if weight(other) > 2:
                        self.assertIsNone(forms_of(letters, other))
            for place in range(2 ** letters):
                found = forms_of(letters, 1 << place)
                self.assert_same(found, tuple((1 << letter, (place >> letter & 1) ^ 1) for letter in range(letters)))

    def test_four_places_that_are_no_flat(self):
        self.assertIsNone(forms_of(3, 0b10010011))
        self.assertIsNone(forms_of(4, 1 | 2 | 4 | 16))
        self.assert_same(forms_of(3, 0b11000011), ((6, 1),))

    def test_errors(self):
        for letters in BAD_SIZES:
            self.assert_error(BadLetters, {}, forms_of, letters, 0)
            self.assert_error(BadLetters, {}, forms_of, letters, None)
        for letters in SIZES:
            for bad in NO_NUMBERS + (-1, 2 ** 2 ** letters):
                self.assert_error(BadWord, {"index": 0}, forms_of, letters, bad)


class FlatOver(Case):
    def test_the_least_flat_of_few_letters(self):
        for letters in (1, 2, 3):
            for number in range(1, 2 ** 2 ** letters):
                places = [place for place in range(2 ** letters) if number >> place & 1]
                over = [word for word in FLATS[letters] if word & number == number]
                least = min(over, key=weight)
                self.assertTrue(all(word & least == least for word in over))
                self.assert_same(flat_over(letters, places), FLATS[letters][least])
                self.assert_same(flat_over(letters, tuple(places[::-1] + places)), FLATS[letters][least])

    def test_more_letters(self):
        source = chance(357)
        for letters in (4, 5):
            for _ in range(80):
                places = [source.randrange(2 ** letters) for _ in range(source.randrange(1, letters + 2))]
                first = places[0]
                reached = {first ^ change for change in all_sums(place ^ first for place in places)}
                found = flat_over(letters, places)
                self.assertTrue(is_reduced(found))
                self.assertEqual(word_by_values(letters, found), sum(1 << place for place in reached))

    def test_errors(self):
        for letters in BAD_SIZES:
            for places in ((0,), (), None):
                self.assert_error(BadLetters, {}, flat_over, letters, places)
        for letters in SIZES:
            self.assert_error(BadPlaces, {"index": 0}, flat_over, letters, ())
            self.assert_error(BadPlaces, {"index": 0}, flat_over, letters, [])
            for thing in NO_SEQUENCES:
                self.assert_error(BadPlaces, {"index": 0}, flat_over, letters, thing)
            for bad in NO_NUMBERS + (-1, 2 ** letters):
                self.assert_error(BadPlaces, {"index": 0}, flat_over, letters, [bad, -1])
                self.assert_error(BadPlaces, {"index": 2}, flat_over, letters, (0, 1, bad))


if __name__ == "__main__":
    unittest.main()
