"""counts.py: [4.8], [4.9]."""

import unittest

from lowerwords.choices import Choice
from lowerwords.counts import least_sum, made_by_least, sum_fault, unmade_heap, weights_row
from lowerwords.errors import BadHeap, EmptyChoice, NotClosed, NotFalling, NotMade, TooMany
from lowerwords.leasts import all_least, is_least
from tests.support import (
    NO_NUMBERS,
    NO_SEQUENCES,
    SIZES,
    Case,
    all_below_by_descents,
    all_sums,
    code_of,
    falling_sets,
    some_heap_sets,
    subset_sets,
    weight,
    word_by_places,
)
from tests.test_leasts import LEAST, some_falling, top_of


def made_set(heaps):
    """All heaps below heaps of top size."""
    top = top_of(heaps)
    return tuple(sorted(set().union(*[all_below_by_descents(heap) for heap in heaps if weight(heap) == top])))


class Made(Case):
    def test_all_falling_choices(self):
        for letters in SIZES:
            for heaps in LEAST[letters]:
                choice = Choice(letters, heaps)
                due = made_set(heaps)
                self.assert_alike(made_by_least(choice), Choice(letters, due))
                self.assert_same(unmade_heap(choice), min(set(heaps) - set(due), default=None))

    def test_the_sums_of_least_words(self):
        for letters in (1, 2, 3):
            for heaps in LEAST[letters]:
                choice = Choice(letters, heaps)
                self.assertEqual(all_sums(all_least(choice)), code_of(letters, made_set(heaps)))
        for heaps in LEAST[4]:
            if len(made_set(heaps)) <= 8:
                self.assertEqual(all_sums(all_least(Choice(4, heaps))), code_of(4, made_set(heaps)))

    def test_plain_cases(self):
        self.assertIsNone(unmade_heap(Choice(3, (0, 1, 2, 3))))
        self.assert_same(unmade_heap(Choice(3, (0, 1, 2, 3, 4))), 4)
        self.assert_same(made_by_least(Choice(3, (0, 1, 2, 3, 4))).heaps, (0, 1, 2, 3))


class Sums(Case):
    def test_each_sum(self):
        for letters in SIZES:
            for heaps in LEAST[letters]:
                choice = Choice(letters, heaps)
                words_of_top = 2 ** (letters - top_of(heaps))
                for heap in made_set(heaps)[::1 if letters < 5 else 3]:
                    found = least_sum(choice, heap)
                    self.assertIs(found.__class__, tuple)
                    self.assertEqual(list(found), sorted(set(found)))
                    total = 0
                    for word in found:
                        self.assertIs(word.__class__, int)
                        self.assertEqual(weight(word), words_of_top)
                        self.assertIs(is_least(choice, word), True)
                        total ^= word
                    self.assertEqual(total, word_by_places(letters, heap))
                    self.assertIsNone(sum_fault(choice, heap, found))

    def test_heaps_that_are_not_made(self):
        for letters in SIZES:
            for heaps in LEAST[letters]:
                choice = Choice(letters, heaps)
                for heap in sorted(set(range(2 ** letters)) - set(made_set(heaps)))[:6]:
                    self.assert_error(NotMade, {"heap": heap}, least_sum, choice, heap)

    def test_a_least_word_alone(self):
        self.assert_same(least_sum(Choice(3, (0,)), 0), (255,))
        self.assert_same(least_sum(Choice(1, (0, 1)), 0), (1, 2))
        self.assert_same(least_sum(Choice(1, (0, 1)), 1), (2,))


class Faults(Case):
    def test_words(self):
        for choice in some_falling(5):
            for thing in NO_SEQUENCES + ({1}, None):
                self.assert_same(sum_fault(choice, 0, thing), "words")

    def test_least(self):
        for choice in some_falling(5):
            full = 2 ** 2 ** choice.letters - 1
            good = list(least_sum(choice, 0))
            others = [word for word in (0, 3, 5, full, full - 1, 6) if word <= full and not is_least(choice, word)]
            for bad in NO_NUMBERS + (-1, full + 1, 10 ** 30, *others):
                self.assert_same(sum_fault(choice, 0, [bad]), "least")
                self.assert_same(sum_fault(choice, 0, good + [bad]), "least")
                self.assert_same(sum_fault(choice, 0, (bad, *good)), "least")

    def test_sum(self):
        for choice in some_falling(8):
            words = list(all_least(choice))
            self.assert_same(sum_fault(choice, 0, ()), "sum")
            self.assert_same(sum_fault(choice, 0, []), "sum")
            for heap in made_set(choice.heaps)[:4]:
                good = list(least_sum(choice, heap))
                self.assert_same(sum_fault(choice, heap, good + [words[0]]), "sum")
                self.assert_same(sum_fault(choice, heap, good[1:]), "sum")
                for other in choice.heaps:
                    if other != heap:
                        self.assert_same(sum_fault(choice, other, good), "sum")

    def test_order_and_doubles(self):
        for choice in some_falling(8):
            words = list(all_least(choice))
            for heap in made_set(choice.heaps)[:4]:
                good = list(least_sum(choice, heap))
                self.assertIsNone(sum_fault(choice, heap, good[::-1]))
                self.assertIsNone(sum_fault(choice, heap, tuple(good)))
                self.assertIsNone(sum_fault(choice, heap, [words[-1]] + good + [words[-1]]))
                self.assertIsNone(sum_fault(choice, heap, good + good + good))
                self.assert_same(sum_fault(choice, heap, good + good), "sum")

    def test_the_sum_is_judged_from_all_least_words(self):
        choice = Choice(2, (0, 1, 2))
        for words in subset_sets(2):
            least = {0b1010, 0b0101, 0b1100, 0b0011, 0b0110, 0b1001}
            total = 0
            for word in words:
                total ^= word
            for heap in range(4):
                due = "sum" if total != word_by_places(2, heap) else None
                due = due if set(words) <= least else "least"
                self.assert_same(sum_fault(choice, heap, words), due)

    def test_a_heap_that_is_not_made(self):
        for choice in some_falling():
            made = made_set(choice.heaps)
            words = list(all_least(choice))
            for heap in range(2 ** choice.letters):
                if heap in made:
                    continue
                self.assert_same(sum_fault(choice, heap, words[:20]), "sum")
                self.assert_same(sum_fault(choice, heap, words[-3:]), "sum")
                self.assert_same(sum_fault(choice, heap, [0]), "least")
                self.assert_same(sum_fault(choice, heap, None), "words")


class Errors(Case):
    def test_the_choice_comes_first(self):
        calls = [(made_by_least, ()), (unmade_heap, ())]
        for heap in (0, -1, None):
            calls += [(least_sum, (heap,)), (sum_fault, (heap, ())), (sum_fault, (heap, None))]
        for call, told in calls:
            for letters in SIZES:
                self.assert_error(EmptyChoice, {}, call, Choice(letters, ()), *told)
                self.assert_error(NotClosed, {"heap": 1, "missing": 0}, call, Choice(letters, (1,)), *told)
            self.assert_error(NotFalling, {"heap": 4, "missing": 1}, call, Choice(3, (0, 4)), *told)
            self.assert_error(NotClosed, {"heap": 12, "missing": 8}, call, Choice(4, (0, 2, 4, 12)), *told)

    def test_bad_heaps(self):
        for choice in some_falling():
            for bad in NO_NUMBERS + (-1, 2 ** choice.letters):
                self.assert_error(BadHeap, {"index": 0}, least_sum, choice, bad)
                for words in ((), None, [None]):
                    self.assert_error(BadHeap, {"index": 0}, sum_fault, choice, bad, words)


class Weights(Case):
    def due_row(self, letters, heaps):
        """The row from all words."""
        weights = [weight(word) for word in code_of(letters, heaps)]
        return tuple(weights.count(number) for number in range(2 ** letters + 1))

    def test_all_choices_of_few_letters(self):
        for letters in (1, 2, 3):
            for heaps in subset_sets(letters):
                self.assert_same(weights_row(Choice(letters, heaps)), self.due_row(letters, heaps))

    def test_more_letters(self):
        for letters in (4, 5):
            for heaps in some_heap_sets(letters, 20, 370) + falling_sets(letters)[:20]:
                if len(heaps) <= 12:
                    self.assert_same(weights_row(Choice(letters, heaps)), self.due_row(letters, heaps))

    def test_the_empty_choice(self):
        for letters in SIZES:
            self.assert_same(weights_row(Choice(letters, ())), (1,) + (0,) * 2 ** letters)

    def test_too_many(self):
        for letters in (4, 5):
            self.assertEqual(sum(weights_row(Choice(letters, list(range(12))))), 4096)
            for size in (13, 16, 2 ** letters):
                self.assert_error(TooMany, {"most": 12}, weights_row, Choice(letters, list(range(size))))
        self.assert_error(TooMany, {"most": 12}, weights_row, Choice(5, list(range(10, 23))))


if __name__ == "__main__":
    unittest.main()
