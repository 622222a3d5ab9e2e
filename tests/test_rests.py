"""rests.py: [3.1], [3.8] to [3.11], [3.13]."""

import unittest

from lowerwords.choices import Choice
from lowerwords.errors import BadWord, NotClosed
from lowerwords.falling import closed_by, closed_gap, closure_of, is_falling
from lowerwords.reduced import even_rows
from lowerwords.rests import (
    Against,
    Pair,
    Strange,
    meets_rest,
    own_rest,
    rest_gap,
    rest_of,
    rest_part,
    rest_rows,
    shared_rows,
    within_rest,
)
from lowerwords.words import heaps_of
from tests.support import (
    NO_NUMBERS,
    SIZES,
    Case,
    all_sums,
    chance,
    code_of,
    falling_sets,
    is_closed_set,
    letter_set,
    rows_by_sums,
    some_heap_sets,
    some_words,
    subset_sets,
    weight,
    word_by_places,
)


def own_words(choice):
    """The words of the chosen heaps, place by place."""
    return [word_by_places(choice.letters, heap) for heap in choice.heaps]


def rest_by_words(choice):
    """The rest code, word by word."""
    words = own_words(choice)
    every = range(2 ** 2 ** choice.letters)
    return {word for word in every if all(weight(word & own) % 2 == 0 for own in words)}


def small_choices():
    """All choices of one and two letters, and those of three."""
    return [Choice(letters, heaps) for letters in (1, 2, 3) for heaps in subset_sets(letters)]


def some_choices(seed, many=25):
    """Choices of all numbers of letters: chance ones, closed ones and falling ones."""
    found = []
    for letters in SIZES:
        for heaps in some_heap_sets(letters, many, seed):
            choice = Choice(letters, heaps)
            found += [choice, closed_by(choice), closure_of(choice)]
        found += [Choice(letters, ()), Choice(letters, list(range(2 ** letters)))]
    return found


class Results(Case):
    def test_results(self):
        self.assert_result(Strange, ("word", "heap"), (Pair,))
        self.assert_result(Against, ("row",))
        self.assert_result(Pair, ("first", "second"), (Strange,))


class RestRows(Case):
    def test_against_all_words(self):
        for choice in small_choices():
            self.assert_same(rest_rows(choice), rows_by_sums(rest_by_words(choice)))
        for heaps in some_heap_sets(4, 3, 320):
            choice = Choice(4, heaps)
            self.assert_same(rest_rows(choice), rows_by_sums(rest_by_words(choice)))

    def test_more_letters(self):
        for choice in some_choices(321):
            rows = rest_rows(choice)
            self.assertEqual(len(rows), 2 ** choice.letters - choice.size)
            self.assert_same(rows, even_rows(choice.letters, own_words(choice)))
            for row in rows:
                self.assertTrue(all(weight(row & word) % 2 == 0 for word in own_words(choice)))

    def test_the_empty_choice_and_all_heaps(self):
        for letters in SIZES:
            every = tuple(1 << place for place in reversed(range(2 ** letters)))
            self.assert_same(rest_rows(Choice(letters, ())), every)
            self.assert_same(rest_rows(Choice(letters, list(range(2 ** letters)))), ())


class RestOf(Case):
    def test_closed_choices(self):
        for choice in small_choices() + some_choices(322):
            if not is_closed_set(choice.heaps):
                continue
            full = set(range(choice.letters))
            due = [
                heap
                for heap in range(2 ** choice.letters)
                if not any(letter_set(heap) == full - letter_set(chosen) for chosen in choice.heaps)
            ]
            rest = rest_of(choice)
            self.assert_alike(rest, Choice(choice.letters, due))
            self.assertEqual(rest.size, 2 ** choice.letters - choice.size)
            self.assert_alike(rest_of(rest), choice)
            if choice.letters <= 3:
                self.assertEqual(code_of(choice.letters, rest.heaps), rest_by_words(choice))
            self.assertIs(is_falling(rest), is_falling(choice))

    def test_choices_that_are_not_closed(self):
        for choice in small_choices() + some_choices(323):
            gap = closed_gap(choice)
            if gap is not None:
                self.assert_error(NotClosed, {"heap": gap[0], "missing": gap[1]}, rest_of, choice)
        self.assert_error(NotClosed, {"heap": 1, "missing": 0}, rest_of, Choice(1, (1,)))
        self.assert_error(NotClosed, {"heap": 6, "missing": 2}, rest_of, Choice(3, (0, 1, 4, 5, 6)))

    def test_closed_choices_need_not_fall(self):
        self.assert_alike(rest_of(Choice(2, (0, 2))), Choice(2, (0, 2)))
        self.assert_alike(rest_of(Choice(3, (0, 4))), Choice(3, (0, 1, 2, 4, 5, 6)))

    def test_joined_and_common(self):
        source = chance(324)
        for letters in SIZES:
            closed = [closed_by(Choice(letters, heaps)) for heaps in some_heap_sets(letters, 12, 325)]
            for _ in range(40):
                one, other = source.choice(closed), source.choice(closed)
                self.assert_alike(rest_of(one.joined(other)), rest_of(one).common(rest_of(other)))
                self.assert_alike(rest_of(one.common(other)), rest_of(one).joined(rest_of(other)))

    def test_the_rest_of_a_falling_choice_is_falling(self):
        for letters in SIZES:
            for heaps in falling_sets(letters):
                self.assertIs(is_falling(rest_of(Choice(letters, heaps))), True)

    def test_what_is_returned_is_new(self):
        own = Choice(2, (0, 1))
        self.assert_alike(rest_of(own), own)
        self.assertIsNot(rest_of(own), own)


class RestPart(Case):
    def test_the_heaps_whose_word_is_in_the_rest_code(self):
        for choice in small_choices() + some_choices(326, 12):
            words = own_words(choice)
            due = [
                heap
                for heap in range(2 ** choice.letters)
                if all(weight(word_by_places(choice.letters, heap) & word) % 2 == 0 for word in words)
            ]
            self.assert_alike(rest_part(choice), Choice(choice.letters, due))
            self.assert_alike(rest_part(choice), rest_of(closed_by(choice)))


class RestGap(Case):
    def test_the_due_result(self):
        for choice in small_choices() + some_choices(327, 12):
            words = own_words(choice)
            due = None
            for row in rest_rows(choice):
                strange = [
                    heap
                    for heap in heaps_of(choice.letters, row)
                    if any(weight(word_by_places(choice.letters, heap) & word) % 2 for word in words)
                ]
                if strange:
                    due = (row, min(strange))
                    break
            result = rest_gap(choice)
            self.assertIs(result is None, is_closed_set(choice.heaps))
            if due is None:
                self.assertIsNone(result)
            else:
                self.assert_alike(result, Strange(*due))
                self.assert_same((result.word, result.heap), due)

    def test_none_exactly_if_the_rest_code_is_a_code_of_a_choice(self):
        for letters in (1, 2):
            codes = [code_of(letters, heaps) for heaps in subset_sets(letters)]
            for heaps in subset_sets(letters):
                choice = Choice(letters, heaps)
                self.assertIs(rest_gap(choice) is None, rest_by_words(choice) in codes)


class MeetsRest(Case):
    def test_all_words(self):
        for choice in small_choices()[::3]:
            code = code_of(choice.letters, choice.heaps)
            rows = rest_rows(choice)
            for word in range(0, 2 ** 2 ** choice.letters, 1 if choice.letters < 3 else 5):
                self.assert_met(choice, word, rows, word in code)

    def assert_met(self, choice, word, rows, is_in):
        """The result is the due one."""
        result = meets_rest(choice, word)
        odd = [row for row in rows if weight(row & word) % 2]
        self.assertIs(result is None, is_in)
        self.assertIs(result is None, odd == [])
        if odd:
            self.assert_alike(result, Against(odd[0]))
            self.assert_same(result.row, odd[0])

    def test_more_letters(self):
        source = chance(328)
        for letters in (4, 5):
            for heaps in some_heap_sets(letters, 8, 329):
                choice = Choice(letters, heaps)
                rows = rest_rows(choice)
                for word in some_words(letters, 6, 330):
                    is_in = set(heaps_of(letters, word)) <= set(heaps)
                    self.assert_met(choice, word, rows, is_in)
                word = 0
                for own in own_words(choice):
                    word ^= own * source.randrange(2)
                self.assert_met(choice, word, rows, True)

    def test_bad_words(self):
        for letters in SIZES:
            for bad in NO_NUMBERS + (-1, 2 ** 2 ** letters):
                for heaps in ((), (0,), (1,)):
                    self.assert_error(BadWord, {"index": 0}, meets_rest, Choice(letters, heaps), bad)


class WithinRest(Case):
    def test_the_least_pair(self):
        for choice in small_choices() + some_choices(331):
            full = set(range(choice.letters))
            pairs = [
                (one, other)
                for one in choice.heaps
                for other in choice.heaps
                if one <= other and letter_set(one) | letter_set(other) == full
            ]
            result = within_rest(choice)
            if pairs:
                self.assert_alike(result, Pair(*min(pairs)))
                self.assert_same((result.first, result.second), min(pairs))
            else:
                self.assertIsNone(result)
            self.assertIs(within_rest(closed_by(choice)) is None, result is None)

    def test_none_exactly_if_the_code_lies_within(self):
        for choice in small_choices():
            code = code_of(choice.letters, choice.heaps)
            self.assertIs(within_rest(choice) is None, code <= rest_by_words(choice))

    def test_one_heap_with_itself(self):
        for letters in SIZES:
            full = 2 ** letters - 1
            self.assert_alike(within_rest(Choice(letters, (full,))), Pair(full, full))
            self.assert_alike(within_rest(Choice(letters, (0, full))), Pair(0, full))
            self.assertIsNone(within_rest(Choice(letters, (0,))))
            self.assertIsNone(within_rest(Choice(letters, ())))

    def test_own_rest(self):
        for choice in small_choices():
            due = code_of(choice.letters, choice.heaps) == rest_by_words(choice)
            self.assertIs(own_rest(choice), due)
            if due:
                self.assertTrue(is_closed_set(choice.heaps))
        for letters in SIZES:
            for heaps in falling_sets(letters):
                choice = Choice(letters, heaps)
                self.assertIs(own_rest(choice), rest_of(choice) == choice)
        self.assertIs(own_rest(Choice(1, (0,))), True)
        self.assertIs(own_rest(Choice(3, (0, 1, 2, 4))), True)
        self.assertIs(own_rest(Choice(3, (0, 1, 2))), False)
        self.assertIs(own_rest(Choice(3, (0, 1, 2, 3))), True)
        self.assertIs(own_rest(Choice(2, (0, 3))), False)


class SharedRows(Case):
    def test_against_all_words(self):
        for choice in small_choices():
            due = code_of(choice.letters, choice.heaps) & rest_by_words(choice)
            self.assert_same(shared_rows(choice), rows_by_sums(due))

    def test_more_letters(self):
        for letters in (4, 5):
            for heaps in some_heap_sets(letters, 25, 332):
                if len(heaps) > 9:
                    continue
                choice = Choice(letters, heaps)
                words = own_words(choice)
                due = {word for word in all_sums(words) if all(weight(word & own) % 2 == 0 for own in words)}
                self.assert_same(shared_rows(choice), rows_by_sums(due))

    def test_closed_choices(self):
        for choice in some_choices(333):
            if not is_closed_set(choice.heaps):
                continue
            full = 2 ** choice.letters - 1
            both = [heap for heap in choice.heaps if full - heap not in choice.heaps]
            if len(both) <= 10:
                due = all_sums(word_by_places(choice.letters, heap) for heap in both)
                self.assert_same(shared_rows(choice), rows_by_sums(due))


class Examples(Case):
    def test_the_first_example(self):
        choice = Choice(3, (0, 1, 2, 3, 4, 5))
        self.assert_same(rest_of(choice).heaps, (0, 1))
        self.assert_same(rest_rows(choice), (170, 85))
        self.assert_alike(within_rest(choice), Pair(2, 5))
        self.assertIsNone(rest_gap(choice))

    def test_heap_1_alone(self):
        choice = Choice(3, (1,))
        self.assert_same(rest_rows(choice), (130, 64, 34, 16, 10, 4, 1))
        self.assert_same(rest_part(choice).heaps, (0, 1, 2, 3, 4, 5))
        self.assert_alike(rest_gap(choice), Strange(64, 6))
        self.assert_error(NotClosed, {"heap": 1, "missing": 0}, rest_of, choice)


if __name__ == "__main__":
    unittest.main()
