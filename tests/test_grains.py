"""grains.py: [3.12], [3.13]."""

import itertools
import math
import unittest

from lowerwords.choices import Choice
from lowerwords.errors import EmptyChoice
from lowerwords.falling import closed_by
from lowerwords.grains import Grain, grain_of
from lowerwords.rests import within_rest
from tests.support import (
    SIZES,
    Case,
    code_of,
    falling_sets,
    letter_set,
    some_heap_sets,
    subset_sets,
    sum_by_heaps,
    weight,
)


def exponent(letters, family):
    """e of a family."""
    return len(family) - 1 + letters - len(set().union(*[letter_set(heap) for heap in family]))


def due_grain(letters, heaps, most):
    """The divisor and the due family, over all families of at most so many heaps."""
    families = [family for many in range(1, most + 1) for family in itertools.combinations(heaps, many)]
    least = min(exponent(letters, family) for family in families)
    return 2 ** least, min([family for family in families if exponent(letters, family) == least], key=fewest_first)


def fewest_first(family):
    """A key that puts families of fewer heaps first."""
    return len(family), family


class Grains(Case):
    def test_result(self):
        self.assert_result(Grain, ("divisor", "heaps"))

    def assert_grain(self, letters, heaps, most):
        """The result is the due one, and it shows what it says."""
        result = grain_of(Choice(letters, heaps))
        due = due_grain(letters, heaps, most)
        self.assert_alike(result, Grain(*due))
        self.assert_same((result.divisor, result.heaps), due)
        shown = weight(sum_by_heaps(letters, result.heaps))
        self.assertEqual(shown % result.divisor, 0)
        self.assertEqual(shown // result.divisor % 2, 1)
        return result

    def test_all_families_and_all_words_of_few_letters(self):
        for letters in (1, 2, 3):
            for heaps in subset_sets(letters):
                if heaps:
                    result = self.assert_grain(letters, heaps, len(heaps))
                    weights = [weight(word) for word in code_of(letters, heaps)]
                    self.assertEqual(result.divisor, math.gcd(*weights))

    def test_more_letters(self):
        for letters in (4, 5):
            for heaps in some_heap_sets(letters, 40, 340) + falling_sets(letters)[::5]:
                if 0 < len(heaps) <= 10:
                    result = self.assert_grain(letters, heaps, 4)
                    weights = [weight(word) for word in code_of(letters, heaps)]
                    self.assertEqual(result.divisor, math.gcd(*weights))
                elif heaps:
                    self.assert_grain(letters, heaps, 2)

    def test_the_closure_has_the_same_grain(self):
        for letters in SIZES:
            for heaps in some_heap_sets(letters, 30, 341):
                if heaps:
                    choice = Choice(letters, heaps)
                    self.assertEqual(grain_of(choice).divisor, grain_of(closed_by(choice)).divisor)
                    if grain_of(choice).divisor % 4 == 0:
                        self.assertIsNone(within_rest(choice))

    def test_the_examples_of_the_document(self):
        self.assert_alike(grain_of(Choice(3, (0, 1, 2, 3, 4, 5))), Grain(2, (3,)))
        self.assert_alike(grain_of(Choice(4, (3, 12))), Grain(2, (3, 12)))

    def test_one_heap(self):
        for letters in SIZES:
            for heap in range(2 ** letters):
                due = Grain(2 ** (letters - len(letter_set(heap))), (heap,))
                self.assert_alike(grain_of(Choice(letters, (heap,))), due)

    def test_the_empty_choice(self):
        for letters in SIZES:
            self.assert_error(EmptyChoice, {}, grain_of, Choice(letters, ()))


if __name__ == "__main__":
    unittest.main()
