"""best.py: [10.1], [10.5], [10.14]."""

import functools
import unittest

from lowerwords.best import Best, best_choice, best_row
from lowerwords.choices import Choice
from lowerwords.errors import BadLetters, BadNumber, EmptyChoice
from tests.support import BAD_SIZES, NO_NUMBERS, SIZES, Case, chance, code_of, letter_set, subset_sets, weight
from tests.test_leasts import top_of
from tests.test_staircases import ORDERED


@functools.lru_cache(maxsize=None)
def least_words(letters, heaps):
    """The least weight of a code and how many words have it: by all words, or by the leading heaps."""
    if letters < 4 and len(heaps) <= 8:
        weights = [weight(word) for word in code_of(letters, heaps) if word]
        return min(weights), weights.count(min(weights))
    many = 0
    for heap in heaps:
        if weight(heap) == top_of(heaps):
            own = letter_set(heap)
            many += 2 ** sum(1 + len([lower for lower in range(letter) if lower not in own]) for letter in own)
    return 2 ** (letters - top_of(heaps)), many


def best_by_trying(letters, size):
    """(weight, many, heaps) of the best choice, of all falling choices of this size."""
    found = []
    for number, heaps in enumerate(ORDERED[letters]):
        if len(heaps) == size:
            least, many = least_words(letters, heaps)
            found.append((-least, many, number))
    least, many, number = min(found)
    return -least, many, ORDERED[letters][number]


class Results(Case):
    def test_result(self):
        self.assert_result(Best, ("weight", "many", "choice"))


class BestChoices(Case):
    def test_each_size_of_few_letters(self):
        for letters in (1, 2, 3, 4):
            for size in range(1, 2 ** letters + 1):
                least, many, heaps = best_by_trying(letters, size)
                result = best_choice(letters, size)
                self.assert_alike(result, Best(least, many, Choice(letters, heaps)))
                self.assert_same((result.weight, result.many, result.choice.heaps), (least, many, heaps))

    def test_some_sizes_of_five_letters(self):
        for size in (1, 2, 5, 6, 7, 11, 15, 16, 17, 25, 31, 32):
            least, many, heaps = best_by_trying(5, size)
            result = best_choice(5, size)
            self.assert_alike(result, Best(least, many, Choice(5, heaps)))
            self.assert_same((result.weight, result.many, result.choice.heaps), (least, many, heaps))

    def test_the_row(self):
        for letters in SIZES:
            row = best_row(letters)
            self.assertIs(row.__class__, tuple)
            due = [best_by_trying(letters, size) for size in range(1, 2 ** letters + 1)]
            self.assert_same([(best.weight, best.many, best.choice.heaps) for best in row], due)
            self.assertEqual({best.choice.letters for best in row}, {letters})
            self.assertEqual({best.__class__ for best in row}, {Best})

    def test_the_example(self):
        self.assert_alike(best_choice(3, 4), Best(4, 14, Choice(3, (0, 1, 2, 4))))

    def test_fewest_least_words_and_then_the_first(self):
        met = set()
        for letters in (4, 5):
            for size in range(1, 2 ** letters + 1):
                same = [heaps for heaps in ORDERED[letters] if len(heaps) == size]
                least = {heaps: least_words(letters, heaps) for heaps in same}
                best = best_by_trying(letters, size)
                met.add(len([heaps for heaps in same if least[heaps][0] == best[0]]) > 1)
                met.add(("many", len([heaps for heaps in same if least[heaps] == best[:2]]) > 1))
        self.assertTrue({True, False, ("many", False)} <= met)

    def test_no_choice_at_all_has_a_greater_least_weight(self):
        for letters in (1, 2):
            for heaps in subset_sets(letters):
                if heaps:
                    least = min(weight(word) for word in code_of(letters, heaps) if word)
                    self.assertLessEqual(least, best_choice(letters, len(heaps)).weight)
        source = chance(570)
        for letters in (3, 4, 5):
            row = best_row(letters)
            for _ in range(300):
                heaps = source.sample(range(2 ** letters), source.randrange(1, 2 ** letters + 1))
                self.assertLessEqual(2 ** (letters - top_of(heaps)), row[len(heaps) - 1].weight)

    def test_errors_in_their_order(self):
        for bad in BAD_SIZES:
            for size in (0, 1, None, -1):
                self.assert_error(BadLetters, {}, best_choice, bad, size)
            self.assert_error(BadLetters, {}, best_row, bad)
        for letters in SIZES:
            for bad in NO_NUMBERS + (-1, 2 ** letters + 1, 10 ** 30):
                self.assert_error(BadNumber, {"most": 2 ** letters}, best_choice, letters, bad)
            self.assert_error(EmptyChoice, {}, best_choice, letters, 0)


if __name__ == "__main__":
    unittest.main()
