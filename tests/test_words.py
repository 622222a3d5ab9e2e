"""words.py: [0.1], [0.2], [1.3], [1.4], [1.5]."""

import itertools
import unittest

from lowerwords.errors import BadHeap, BadLetters, BadOrder, BadPlaces, BadWord
from lowerwords.words import (
    check_order,
    check_word,
    full_word,
    heap_word,
    heaps_of,
    marked_word,
    meets_evenly,
    places_of,
    renamed_word,
    value_at,
    weight_of,
    word_of,
)
from tests.support import (
    BAD_SIZES,
    NO_NUMBERS,
    NO_SEQUENCES,
    SIZES,
    Case,
    heap_number,
    letter_set,
    some_heap_sets,
    some_words,
    sum_by_heaps,
    word_by_places,
)


def no_words(letters):
    """Things that are no words of these letters."""
    return NO_NUMBERS + (-1, 2 ** 2 ** letters, 2 ** 2 ** letters + 10 ** 30)


def renamed_by_sets(number, order):
    """The heap or place with its letters renamed."""
    return heap_number({order[letter] for letter in letter_set(number)})


class Heaps(Case):
    def test_word_of_each_heap(self):
        for letters in SIZES:
            for heap in range(2 ** letters):
                self.assert_same(heap_word(letters, heap), word_by_places(letters, heap))
            self.assertEqual(heap_word(letters, 0), 2 ** 2 ** letters - 1)

    def test_word_of_a_set_of_heaps(self):
        for letters in SIZES:
            for heaps in some_heap_sets(letters, 150, 2):
                due = sum_by_heaps(letters, heaps)
                self.assert_same(word_of(letters, heaps), due)
                self.assert_same(word_of(letters, list(heaps)[::-1] + list(heaps)), due)
            self.assert_same(word_of(letters, []), 0)

    def test_heaps_of_a_word_there_and_back(self):
        for letters in SIZES:
            for word in some_words(letters, 300, 3):
                heaps = heaps_of(letters, word)
                self.assertIs(heaps.__class__, tuple)
                self.assertEqual(list(heaps), sorted(set(heaps)))
                self.assertEqual(word_of(letters, heaps), word)
                if letters > 2:
                    continue
                self.assertEqual(sum_by_heaps(letters, heaps), word)

    def test_heaps_there_and_back(self):
        for letters in SIZES:
            for heaps in some_heap_sets(letters, 150, 4):
                self.assert_same(heaps_of(letters, word_of(letters, heaps)), heaps)

    def test_the_same_steps_lead_both_ways(self):
        for letters in SIZES:
            for number in some_words(letters, 100, 5):
                self.assertEqual(
                    word_of(letters, places_of(letters, number)), marked_word(letters, heaps_of(letters, number))
                )

    def test_the_example_of_the_document(self):
        self.assert_same(heap_word(3, 5), 160)
        self.assert_same(word_of(3, [5]), 160)
        self.assert_same(places_of(3, 160), (5, 7))
        self.assert_same(heaps_of(3, 150), (1, 2, 4))
        self.assert_same(word_of(3, (4, 2, 1, 2)), 150)
        for place in range(8):
            self.assertEqual(value_at(3, 150, place), bin(place).count("1") % 2)

    def test_wrong_heaps_and_words(self):
        for letters in SIZES:
            for thing in NO_NUMBERS + (-1, 2 ** letters):
                self.assert_error(BadHeap, {"index": 0}, heap_word, letters, thing)
                self.assert_error(BadHeap, {"index": 2}, word_of, letters, [0, 1, thing])
            for thing in no_words(letters):
                self.assert_error(BadWord, {"index": 0}, heaps_of, letters, thing)
        for thing in NO_SEQUENCES:
            self.assert_error(BadHeap, {"index": 0}, word_of, 3, thing)


class Places(Case):
    def test_words_are_checked(self):
        for letters in SIZES:
            for word in some_words(letters, 50, 6):
                self.assertIs(check_word(letters, word), word)
            for thing in no_words(letters):
                self.assert_error(BadWord, {"index": 0}, check_word, letters, thing)

    def test_full_word(self):
        for letters in SIZES:
            self.assert_same(full_word(letters), 2 ** 2 ** letters - 1)

    def test_places_marked_word_weight_and_values(self):
        for letters in SIZES:
            for word in some_words(letters, 100, 7):
                due = tuple(place for place in range(2 ** letters) if word // 2 ** place % 2)
                self.assert_same(places_of(letters, word), due)
                self.assert_same(marked_word(letters, due), word)
                self.assert_same(marked_word(letters, list(due)[::-1] + list(due)), word)
                self.assert_same(weight_of(letters, word), len(due))
                for place in range(2 ** letters):
                    self.assert_same(value_at(letters, word, place), 1 if place in due else 0)

    def test_wrong_places(self):
        for letters in SIZES:
            for thing in NO_NUMBERS + (-1, 2 ** letters, 10 ** 30):
                self.assert_error(BadPlaces, {"index": 0}, value_at, letters, 0, thing)
                self.assert_error(BadPlaces, {"index": 1}, marked_word, letters, [0, thing, thing])
        for thing in NO_SEQUENCES:
            self.assert_error(BadPlaces, {"index": 0}, marked_word, 3, thing)

    def test_wrong_words(self):
        for letters in SIZES:
            for thing in no_words(letters):
                for call in (places_of, weight_of):
                    self.assert_error(BadWord, {"index": 0}, call, letters, thing)
                self.assert_error(BadWord, {"index": 0}, value_at, letters, thing, -1)
                self.assert_error(BadWord, {"index": 0}, meets_evenly, letters, thing, 0)
                self.assert_error(BadWord, {"index": 0}, meets_evenly, letters, 0, thing)

    def test_even_meetings(self):
        for letters in SIZES:
            words = some_words(letters, 60, 8)
            if letters == 3:
                words = words[::7]
            for word in words:
                for other in words:
                    both = [place for place in range(2 ** letters) if word & other & 2 ** place]
                    self.assertIs(meets_evenly(letters, word, other), len(both) % 2 == 0)

    def test_bad_letters_come_first(self):
        for letters in BAD_SIZES:
            self.assert_error(BadLetters, {}, full_word, letters)
            for call in (check_word, word_of, heap_word, heaps_of, places_of, marked_word, weight_of, check_order):
                self.assert_error(BadLetters, {}, call, letters, -1)
            for call in (value_at, meets_evenly, renamed_word):
                self.assert_error(BadLetters, {}, call, letters, -1, -1)


class Orders(Case):
    def test_all_orders_are_returned_as_tuples(self):
        for letters in SIZES:
            for order in itertools.permutations(range(letters)):
                self.assert_same(check_order(letters, order), order)
                self.assert_same(check_order(letters, list(order)), order)

    def test_wrong_orders(self):
        for thing in NO_SEQUENCES + ((1,), (0, 1), [], [0, 0], [False], [0.0], ["0"], [-1]):
            self.assert_error(BadOrder, {}, check_order, 1, thing)
        wrong = ((0, 1), (0, 1, 3), (0, 1, 1), (0, 1, 2, 2), (0, 1, 2, 3), (-1, 0, 1), (0, True, 2), (0, 1.0, 2))
        for thing in NO_SEQUENCES + wrong + ("012", (0, 1, [2]), (0, 1, None), {0, 1, 2}, range(3), {0: 0, 1: 1, 2: 2}):
            self.assert_error(BadOrder, {}, check_order, 3, thing)

    def test_the_heaps_and_places_are_renamed(self):
        for letters in SIZES:
            orders = list(itertools.permutations(range(letters)))
            orders = orders if letters <= 3 else orders[::11]
            for word in some_words(letters, 12, 9)[::3]:
                for order in orders:
                    renamed = renamed_word(letters, word, list(order))
                    for place in range(2 ** letters):
                        there = value_at(letters, renamed, renamed_by_sets(place, order))
                        self.assertEqual(there, value_at(letters, word, place))
                    due = sorted(renamed_by_sets(heap, order) for heap in heaps_of(letters, word))
                    self.assertEqual(list(heaps_of(letters, renamed)), due)

    def test_an_order_that_is_not_its_own_opposite(self):
        # Letter 0 becomes 1, 1 becomes 2, 2 becomes 0: heap 1 becomes heap 2, not heap 4.
        self.assert_same(renamed_word(3, heap_word(3, 1), (1, 2, 0)), heap_word(3, 2))
        self.assert_same(renamed_word(3, heap_word(3, 6), (1, 2, 0)), heap_word(3, 5))

    def test_the_word_is_checked_ahead_of_the_order(self):
        self.assert_error(BadWord, {"index": 0}, renamed_word, 2, 16, (0, 0))
        self.assert_error(BadOrder, {}, renamed_word, 2, 15, (0, 0))


if __name__ == "__main__":
    unittest.main()
