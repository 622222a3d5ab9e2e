"""heaps.py: [0.1], [0.4], [0.7], [1.1], [1.2]."""

import unittest

from lowerwords.errors import BadBit, BadHeap, BadLetter, BadLetters, BadNumber, BadPlaces
from lowerwords.heaps import (
    all_heaps,
    all_letters,
    check_bit,
    check_heap,
    check_heaps,
    check_letter,
    check_letters,
    check_number,
    check_places,
    complement_of,
    count_ones,
    is_whole,
    letters_of,
    parity_of,
)
from tests.support import BAD_SIZES, NO_NUMBERS, NO_SEQUENCES, SIZES, Case, chance, letter_set


class WholeNumbers(Case):
    def test_whole_numbers_in_the_bounds(self):
        for low, high in ((0, 0), (0, 1), (-3, 4), (1, 5), (0, 2 ** 100)):
            for thing in (low, high, (low + high) // 2):
                self.assertIs(is_whole(thing, low, high), True)
            for thing in (low - 1, high + 1, low - 10 ** 30, high + 10 ** 30):
                self.assertIs(is_whole(thing, low, high), False)

    def test_no_number_lies_between_bounds_the_wrong_way_round(self):
        for thing in (-2, -1, 0, 1):
            self.assertIs(is_whole(thing, 0, -1), False)

    def test_other_things_are_no_whole_numbers(self):
        for thing in NO_NUMBERS:
            self.assertIs(is_whole(thing, -10, 10), False)


class SingleThings(Case):
    def test_letters(self):
        for letters in SIZES:
            self.assertIs(check_letters(letters), letters)
        for thing in BAD_SIZES:
            self.assert_error(BadLetters, {}, check_letters, thing)

    def test_letter(self):
        for letters in SIZES:
            for letter in range(letters):
                self.assertIs(check_letter(letters, letter), letter)
            for thing in NO_NUMBERS + (-1, letters, 10 ** 30):
                self.assert_error(BadLetter, {}, check_letter, letters, thing)

    def test_bit(self):
        for bit in (0, 1):
            self.assertIs(check_bit(bit), bit)
        for thing in NO_NUMBERS + (-1, 2, 10 ** 30):
            self.assert_error(BadBit, {}, check_bit, thing)

    def test_number(self):
        for most in (0, 1, 4095, 10 ** 30):
            for number in (0, most // 2, most):
                self.assertIs(check_number(number, most), number)
            for thing in NO_NUMBERS + (-1, most + 1, most + 10 ** 30):
                self.assert_error(BadNumber, {"most": most}, check_number, thing, most)

    def test_there_may_be_no_number_at_all(self):
        for thing in NO_NUMBERS + (-2, -1, 0, 1):
            self.assert_error(BadNumber, {"most": -1}, check_number, thing, -1)

    def test_heap(self):
        for letters in SIZES:
            for heap in range(2 ** letters):
                self.assertIs(check_heap(letters, heap), heap)
            for thing in NO_NUMBERS + (-1, 2 ** letters, 10 ** 30):
                self.assert_error(BadHeap, {"index": 0}, check_heap, letters, thing)


class Sequences(Case):
    CHECKS = ((check_heaps, BadHeap), (check_places, BadPlaces))

    def test_ascending_without_duplicates_behind_any_order_with_duplicates(self):
        source = chance(1)
        for check, _ in self.CHECKS:
            for letters in SIZES:
                for many in (0, 1, 2, 5, 40):
                    things = [source.randrange(2 ** letters) for _ in range(many)]
                    due = tuple(sorted(set(things)))
                    self.assert_same(check(letters, things), due)
                    self.assert_same(check(letters, tuple(things)), due)

    def test_all_of_them_and_none_of_them(self):
        for check, _ in self.CHECKS:
            for letters in SIZES:
                due = tuple(range(2 ** letters))
                self.assert_same(check(letters, due), due)
                self.assert_same(check(letters, list(due)[::-1]), due)
                self.assert_same(check(letters, []), ())
                self.assert_same(check(letters, ()), ())

    def test_there_is_no_bound_on_how_many(self):
        for check, error in self.CHECKS:
            self.assert_same(check(1, [1, 0] * 50000), (0, 1))
            self.assert_error(error, {"index": 100000}, check, 1, [1, 0] * 50000 + [2])

    def test_what_is_passed_in_stays_as_it_is(self):
        for check, _ in self.CHECKS:
            things = [3, 1, 3, 0]
            check(2, things)
            self.assertEqual(things, [3, 1, 3, 0])

    def test_what_is_no_sequence_has_index_0(self):
        for check, error in self.CHECKS:
            for thing in NO_SEQUENCES:
                self.assert_error(error, {"index": 0}, check, 3, thing)

    def test_the_index_of_the_first_bad_item(self):
        for check, error in self.CHECKS:
            for letters in SIZES:
                for bad in NO_NUMBERS + (-1, 2 ** letters, 10 ** 30):
                    for index in (0, 1, 4):
                        things = [index % 2] * index + [bad, 0, bad, None]
                        self.assert_error(error, {"index": index}, check, letters, things)
                        self.assert_error(error, {"index": index}, check, letters, tuple(things))


class HeapsOfLetters(Case):
    def test_letters_of_each_heap(self):
        for heap in range(32):
            self.assert_same(letters_of(heap), tuple(sorted(letter_set(heap))))
        self.assert_same(letters_of(0), ())
        self.assert_same(letters_of(5), (0, 2))
        for thing in NO_NUMBERS + (-1, 32, 10 ** 30):
            self.assert_error(BadHeap, {"index": 0}, letters_of, thing)

    def test_ones_and_parity_of_numbers_of_any_size(self):
        for number in range(300):
            ones = bin(number).count("1")
            self.assert_same(count_ones(number), ones)
            self.assert_same(parity_of(number), ones % 2)
        for size in (31, 32, 33, 64, 65, 1000, 20001):
            self.assert_same(count_ones(2 ** size - 1), size)
            self.assert_same(parity_of(2 ** size - 1), size % 2)
            self.assert_same(count_ones(2 ** size), 1)
            self.assert_same(count_ones(2 ** size + 1), 2)
            self.assert_same(parity_of(2 ** size + 1), 0)

    def test_all_letters_complement_and_all_heaps(self):
        for letters in SIZES:
            self.assert_same(all_letters(letters), 2 ** letters - 1)
            self.assert_same(all_heaps(letters), tuple(range(2 ** letters)))
            for heap in range(2 ** letters):
                found = complement_of(letters, heap)
                self.assertEqual(letter_set(found), set(range(letters)) - letter_set(heap))
            for thing in NO_NUMBERS + (-1, 2 ** letters):
                self.assert_error(BadHeap, {"index": 0}, complement_of, letters, thing)

    def test_bad_letters_come_ahead_of_all_else(self):
        for letters in BAD_SIZES:
            for call in (check_letters, all_letters, all_heaps):
                self.assert_error(BadLetters, {}, call, letters)
            for call in (check_letter, check_heap, check_heaps, check_places, complement_of):
                for thing in (0, -1, None, [], [-1]):
                    self.assert_error(BadLetters, {}, call, letters, thing)

    def test_a_heap_of_five_letters_may_be_none_of_four(self):
        self.assert_error(BadHeap, {"index": 0}, check_heap, 4, 16)
        self.assert_error(BadHeap, {"index": 1}, check_heaps, 4, [15, 16])
        self.assertEqual(check_heap(5, 16), 16)


if __name__ == "__main__":
    unittest.main()
