"""products.py: [8.1] (c) and (d), [8.8] to [8.11]."""

import unittest

from lowerwords.choices import Choice
from lowerwords.errors import BadHeap, BadNumber, BadWord, NotClosed, OtherLetters
from lowerwords.falling import closed_by, closure_of, is_closed, is_falling
from lowerwords.halves import strike
from lowerwords.products import Escapes, kept_in, power_of, product_of, quotient_of, union_pair
from lowerwords.rests import rest_of
from tests.support import (
    NO_NUMBERS,
    SIZES,
    Case,
    all_sums,
    chance,
    code_of,
    falling_sets,
    heap_number,
    is_closed_set,
    letter_set,
    some_heap_sets,
    some_words,
    subset_sets,
    word_by_places,
)


def pairs_of_choices(letters, many, seed):
    """Pairs of choices of these letters: all of few letters, some of more, empty and falling ones among them."""
    if letters < 3:
        sets = list(subset_sets(letters))
        return [(Choice(letters, one), Choice(letters, other)) for one in sets for other in sets]
    source = chance(seed)
    choices = []
    for heaps in some_heap_sets(letters, many, seed):
        choices += [Choice(letters, heaps), Choice(letters, heaps[:3]), closure_of(Choice(letters, heaps[:2]))]
    choices.append(Choice(letters, ()))
    return [(source.choice(choices), source.choice(choices)) for _ in range(4 * many)]


def closed_pairs(letters, many, seed):
    """Pairs of closed choices."""
    if letters < 3:
        return [pair for pair in pairs_of_choices(letters, many, seed) if is_closed(pair[0]) and is_closed(pair[1])]
    return [(closed_by(one), closed_by(other)) for one, other in pairs_of_choices(letters, many, seed)]


def unions(heaps, others):
    """All unions of one of the heaps and one of the others, ascending."""
    return tuple(sorted({heap_number(letter_set(one) | letter_set(other)) for one in heaps for other in others}))


class Results(Case):
    def test_result(self):
        self.assert_result(Escapes, ("heap", "word"))


class Products(Case):
    def test_the_unions(self):
        for letters in SIZES:
            for one, other in pairs_of_choices(letters, 20, 550):
                product = product_of(one, other)
                self.assert_alike(product, Choice(letters, unions(one.heaps, other.heaps)))
                self.assert_alike(product, product_of(other, one))

    def test_the_words_are_the_sums_of_products_of_words(self):
        for letters in (1, 2, 3):
            for one, other in pairs_of_choices(letters, 12, 551):
                first, second = code_of(letters, one.heaps), code_of(letters, other.heaps)
                if len(first) * len(second) > 3000:
                    # The sums of the products stay the same if the first factors are words of heaps alone.
                    first = [word_by_places(letters, heap) for heap in one.heaps]
                made = {word & further for word in first for further in second}
                self.assertEqual(all_sums(made), code_of(letters, product_of(one, other).heaps))

    def test_the_empty_choice(self):
        for letters in SIZES:
            empty = Choice(letters, ())
            for heaps in ((), (0,), (1,), tuple(range(2 ** letters))):
                self.assert_alike(product_of(empty, Choice(letters, heaps)), empty)
                self.assert_alike(product_of(Choice(letters, heaps), empty), empty)

    def test_products_and_strikings_change_places(self):
        for letters in SIZES[1:]:
            for one, other in pairs_of_choices(letters, 6, 552)[::3 if letters == 2 else 1]:
                for letter in range(letters):
                    for bit in (0, 1):
                        self.assert_alike(strike(product_of(one, other), letter, bit),
                                          product_of(strike(one, letter, bit), strike(other, letter, bit)))

    def test_other_letters(self):
        for letters in SIZES:
            for other in SIZES:
                if other != letters:
                    for heaps in ((), (0,), (1,)):
                        self.assert_error(OtherLetters, {"letters": other}, product_of, Choice(letters, heaps),
                                          Choice(other, heaps))


class Powers(Case):
    def test_the_products(self):
        for letters in SIZES:
            for heaps in [(), (0,), (1,)] + some_heap_sets(letters, 10, 553):
                choice = Choice(letters, heaps)
                due = (0,)
                for times in range(9):
                    self.assert_alike(power_of(choice, times), Choice(letters, due))
                    due = unions(due, heaps)

    def test_each_power_lies_in_the_next_one(self):
        for letters in SIZES:
            for heaps in some_heap_sets(letters, 10, 554):
                choice = Choice(letters, heaps)
                powers = [power_of(choice, times) for times in range(1, 9)]
                for one, further in zip(powers, powers[1:]):
                    self.assertLessEqual(set(one.heaps), set(further.heaps))
                for further in powers[letters - 1:]:
                    self.assertEqual(further, powers[letters - 1])

    def test_errors(self):
        for letters in SIZES:
            for heaps in ((), (0,), (1,)):
                for bad in NO_NUMBERS + (-1, 9, 10 ** 30):
                    self.assert_error(BadNumber, {"most": 8}, power_of, Choice(letters, heaps), bad)


class Pairs(Case):
    def test_the_least_pair(self):
        met = set()
        for letters in SIZES:
            for one, other in pairs_of_choices(letters, 8, 555):
                for heap in range(2 ** letters):
                    found = [
                        (first, second)
                        for first in one.heaps
                        for second in other.heaps
                        if letter_set(first) | letter_set(second) == letter_set(heap)
                    ]
                    due = min(found) if found else None
                    self.assert_same(union_pair(one, other, heap), due)
                    self.assertIs(due is None, heap not in product_of(one, other))
                    met.add(len(found) > 1)
        self.assertEqual(len(met), 2)

    def test_plain_cases(self):
        choice = Choice(2, (0, 1, 2, 3))
        self.assert_same([union_pair(choice, choice, heap) for heap in range(4)], [(0, 0), (0, 1), (0, 2), (0, 3)])
        self.assert_same(union_pair(Choice(2, (1, 2)), Choice(2, (1, 2, 3)), 3), (1, 2))
        self.assertIsNone(union_pair(choice, Choice(2, (1,)), 2))
        self.assertIsNone(union_pair(choice, Choice(2, ()), 2))

    def test_errors(self):
        for letters in SIZES:
            for heaps in ((), (0,), (1,)):
                choice = Choice(letters, heaps)
                for other in SIZES:
                    if other != letters:
                        for heap in (0, None, 99):
                            self.assert_error(OtherLetters, {"letters": other}, union_pair, choice,
                                              Choice(other, heaps), heap)
                for bad in NO_NUMBERS + (-1, 2 ** letters):
                    self.assert_error(BadHeap, {"index": 0}, union_pair, choice, choice, bad)


class Keeping(Case):
    def assert_kept(self, one, other, word, first, second):
        """What is told of a word, against all words of both codes."""
        letters = one.letters
        outside = [heap for heap in other.heaps if word & word_by_places(letters, heap) not in first]
        result = kept_in(one, other, word)
        self.assertIs(result is None, all(word & further in first for further in second))
        if result is not None:
            self.assert_alike(result, Escapes(outside[0], word & word_by_places(letters, outside[0])))
            self.assert_same((result.heap, result.word), (outside[0], word & word_by_places(letters, outside[0])))
        return result is None

    def test_against_all_words(self):
        met = set()
        for letters in (1, 2, 3):
            for one, other in pairs_of_choices(letters, 20, 556):
                if one.size + other.size > 11:
                    continue
                first, second = code_of(letters, one.heaps), code_of(letters, other.heaps)
                for word in range(2 ** 2 ** letters) if letters < 3 else some_words(3, 0, 557)[::23]:
                    met.add((self.assert_kept(one, other, word, first, second), is_closed(one)))
        self.assertEqual(len(met), 4)

    def test_the_empty_choices(self):
        for letters in SIZES:
            full = 2 ** 2 ** letters - 1
            for word in (0, 1, full):
                self.assertIsNone(kept_in(Choice(letters, ()), Choice(letters, ()), word))
                self.assertIsNone(kept_in(Choice(letters, (1,)), Choice(letters, ()), word))
            self.assertIsNone(kept_in(Choice(letters, ()), Choice(letters, (0,)), 0))
            self.assert_alike(kept_in(Choice(letters, ()), Choice(letters, (0,)), full), Escapes(0, full))

    def test_errors(self):
        for letters in SIZES:
            for heaps in ((), (0,), (1,)):
                choice = Choice(letters, heaps)
                for other in SIZES:
                    if other != letters:
                        for word in (0, None, -1):
                            self.assert_error(OtherLetters, {"letters": other}, kept_in, choice,
                                              Choice(other, heaps), word)
                for bad in NO_NUMBERS + (-1, 2 ** 2 ** letters):
                    self.assert_error(BadWord, {"index": 0}, kept_in, choice, choice, bad)


class Quotients(Case):
    def test_the_heaps(self):
        for letters in SIZES:
            for one, other in closed_pairs(letters, 12, 558):
                heaps = [
                    heap for heap in range(2 ** letters)
                    if set(unions([heap], other.heaps)) <= set(one.heaps)
                ]
                quotient = quotient_of(one, other)
                self.assert_alike(quotient, Choice(letters, heaps))
                self.assertTrue(is_closed_set(heaps))
                self.assert_alike(quotient, rest_of(product_of(other, rest_of(one))))

    def test_against_all_words(self):
        for letters in (1, 2, 3):
            for one, other in closed_pairs(letters, 12, 559):
                quotient = code_of(letters, quotient_of(one, other).heaps)
                for word in range(2 ** 2 ** letters) if letters < 3 else range(0, 256, 11):
                    self.assertIs(kept_in(one, other, word) is None, word in quotient)

    def test_more_letters(self):
        source = chance(560)
        for letters in (4, 5):
            for one, other in closed_pairs(letters, 10, 561):
                quotient = quotient_of(one, other)
                word = 0
                for heap in quotient.heaps:
                    word ^= source.randrange(2) * word_by_places(letters, heap)
                self.assertIsNone(kept_in(one, other, word))
                for heap in range(2 ** letters):
                    if heap not in quotient:
                        self.assertIsNotNone(kept_in(one, other, word ^ word_by_places(letters, heap)))

    def test_products_within_exactly_if_within_the_quotient(self):
        met = set()
        for letters in SIZES:
            for one, other in closed_pairs(letters, 8, 562)[::1 if letters != 2 else 3]:
                for third, _ in closed_pairs(letters, 3, 563)[::5]:
                    inside = set(product_of(third, other).heaps) <= set(one.heaps)
                    self.assertIs(set(third.heaps) <= set(quotient_of(one, other).heaps), inside)
                    met.add(inside)
        self.assertEqual(len(met), 2)

    def test_by_the_empty_choice(self):
        for letters in SIZES:
            every = Choice(letters, list(range(2 ** letters)))
            for heaps in ((), (0,), tuple(range(2 ** letters))):
                self.assert_alike(quotient_of(Choice(letters, heaps), Choice(letters, ())), every)
            self.assert_alike(quotient_of(Choice(letters, ()), Choice(letters, (0,))), Choice(letters, ()))

    def test_what_falls_stays_falling(self):
        source = chance(564)
        for letters in SIZES:
            sets = falling_sets(letters)
            for heaps in sets if letters < 5 else sets[::7]:
                for others in sets if letters < 4 else source.sample(sets, 8):
                    one, other = Choice(letters, heaps), Choice(letters, others)
                    self.assertTrue(is_falling(product_of(one, other)))
                    self.assertTrue(is_falling(quotient_of(one, other)))

    def test_the_example(self):
        self.assert_alike(quotient_of(Choice(3, (0, 1, 2, 3, 4, 5)), Choice(3, (0, 1, 2))), Choice(3, (0, 1, 2, 3)))

    def test_errors_in_their_order(self):
        for letters in SIZES:
            closed, bad = Choice(letters, (0,)), Choice(letters, (1,))
            error = {"heap": 1, "missing": 0}
            for other in SIZES:
                self.assert_error(NotClosed, error, quotient_of, bad, Choice(other, (1,)))
                if other != letters:
                    self.assert_error(OtherLetters, {"letters": other}, quotient_of, closed, Choice(other, (1,)))
                    self.assert_error(OtherLetters, {"letters": other}, quotient_of, closed, Choice(other, ()))
            self.assert_error(NotClosed, error, quotient_of, closed, bad)
            self.assert_error(NotClosed, error, quotient_of, Choice(letters, ()), bad)
        # Closed choices that are not falling are let.
        self.assert_alike(quotient_of(Choice(2, (0, 2)), Choice(2, (0, 2))), Choice(2, (0, 2)))
        self.assert_error(NotClosed, {"heap": 3, "missing": 1}, quotient_of, Choice(2, (0, 2)), Choice(2, (0, 2, 3)))


if __name__ == "__main__":
    unittest.main()
