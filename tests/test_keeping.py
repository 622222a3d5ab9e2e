"""keeping.py: [2.1], [2.10]."""

import itertools
import unittest

from lowerwords.choices import Choice, all_words, holds
from lowerwords.errors import OtherLetters
from lowerwords.falling import closure_of, first_gap, is_falling
from lowerwords.keeping import Leaves, LeavesBy, kept_by, kept_by_all
from lowerwords.substitutions import Substitution, all_steps, all_triangular, one_step
from lowerwords.words import heap_word
from tests.support import SIZES, Case, code_of, some_heap_sets
from tests.test_substitutions import plain_rows, some_rows


class Results(Case):
    def test_they_keep_what_they_are_given(self):
        things = (object(), [1], None)
        result = Leaves(*things[:2])
        self.assertEqual(vars(result), {"heap": things[0], "word": things[1]})
        self.assertIs(result.word, things[1])
        result = LeavesBy(*things)
        self.assertEqual(vars(result), {"substitution": things[0], "heap": things[1], "word": things[2]})
        self.assertIs(result.heap, things[1])
        self.assert_alike(Leaves(heap=1, word=2), Leaves(1, 2))
        self.assert_alike(LeavesBy(substitution=0, heap=1, word=2), LeavesBy(0, 1, 2))

    def test_alike_and_unlike(self):
        for other in (Leaves(1, 3), Leaves(2, 2), Leaves(2, 1), LeavesBy(1, 2, 3), (1, 2), None):
            self.assert_unlike(Leaves(1, 2), other)
        step, other_step = one_step(3, 2), one_step(3, 2, 1)
        self.assert_alike(LeavesBy(step, 1, 2), LeavesBy(one_step(3, 2), 1, 2))
        others = (LeavesBy(other_step, 1, 2), LeavesBy(step, 2, 2), LeavesBy(step, 1, 1), Leaves(1, 2), (step, 1, 2))
        for other in others + (None, step):
            self.assert_unlike(LeavesBy(step, 1, 2), other)


class KeptBy(Case):
    def due(self, choice, substitution):
        """What kept_by is due to return, from the whole code."""
        code = code_of(choice.letters, choice.heaps)
        for heap in choice.heaps:
            word = substitution.moved(heap_word(choice.letters, heap))
            if word not in code:
                return heap, word
        return None

    def assert_kept(self, choice, substitution):
        """The result is the due one."""
        due = self.due(choice, substitution)
        result = kept_by(choice, substitution)
        if due is None:
            self.assertIsNone(result)
        else:
            self.assert_alike(result, Leaves(*due))
            self.assert_same((result.heap, result.word), due)

    def test_few_letters(self):
        for letters in (1, 2, 3):
            for heaps in some_heap_sets(letters, 12, 80):
                choice = Choice(letters, heaps)
                for rows in some_rows(letters, 10, 81)[::2]:
                    self.assert_kept(choice, Substitution(letters, rows))
                    self.assert_kept(closure_of(choice), Substitution(letters, rows))

    def test_the_whole_code_is_kept_exactly_if_the_result_is_none(self):
        for letters in (1, 2, 3):
            for heaps in some_heap_sets(letters, 12, 82):
                choice = Choice(letters, heaps)
                code = code_of(letters, heaps)
                for rows in some_rows(letters, 6, 83)[::3]:
                    substitution = Substitution(letters, rows)
                    kept = all(substitution.moved(word) in code for word in all_words(choice))
                    self.assertIs(kept_by(choice, substitution) is None, kept)

    def test_many_letters(self):
        for letters in (4, 5):
            for heaps in some_heap_sets(letters, 8, 84):
                if len(heaps) > 12:
                    continue
                for rows in some_rows(letters, 5, 85):
                    self.assert_kept(Choice(letters, heaps), Substitution(letters, rows))

    def test_a_swap_of_letters(self):
        swap = Substitution(3, ((2, 0), (1, 0), (4, 0)))
        self.assertIsNone(kept_by(Choice(3, (0, 1, 2)), swap))
        self.assert_alike(kept_by(Choice(3, (0, 2)), swap), Leaves(2, heap_word(3, 1)))
        self.assertIsNone(kept_by(Choice(3, ()), swap))

    def test_other_letters(self):
        for letters, others in itertools.permutations(SIZES, 2):
            for heaps in ((), (0,)):
                substitution = Substitution(others, plain_rows(others))
                told = {"letters": others}
                self.assert_error(OtherLetters, told, kept_by, Choice(letters, heaps), substitution)


class KeptByAll(Case):
    def test_the_due_result(self):
        for letters in SIZES:
            for heaps in some_heap_sets(letters, 60, 86):
                choice = Choice(letters, heaps)
                self.assertIsNone(kept_by_all(closure_of(choice)))
                gap = first_gap(choice)
                result = kept_by_all(choice)
                if gap is None:
                    self.assertIsNone(result)
                    continue
                heap, missing = gap
                gone = (heap & ~missing).bit_length() - 1
                come = (missing & ~heap).bit_length() - 1 if missing & ~heap else None
                word = heap_word(letters, heap) ^ heap_word(letters, missing)
                self.assert_alike(result, LeavesBy(one_step(letters, gone, come), heap, word))
                self.assert_same((result.heap, result.word), (heap, word))
                # The result shows what it says.
                self.assertEqual(result.substitution.moved(heap_word(letters, heap)), word)
                self.assertIs(holds(choice, word), False)

    def test_all_triangular_substitutions_keep_the_code_exactly_if_the_choice_is_falling(self):
        for letters in (1, 2, 3):
            substitutions = list(all_triangular(letters))
            for heaps in some_heap_sets(letters, 25, 87):
                choice = Choice(letters, heaps)
                kept = all(kept_by(choice, substitution) is None for substitution in substitutions)
                self.assertIs(kept, is_falling(choice))
                self.assertIs(kept_by_all(choice) is None, kept)

    def test_more_letters_by_steps(self):
        for letters in (4, 5):
            steps = [one_step(letters, letter, lower) for letter, lower in all_steps(letters)]
            for heaps in some_heap_sets(letters, 10, 88):
                for choice in (Choice(letters, heaps), closure_of(Choice(letters, heaps))):
                    kept = all(kept_by(choice, step) is None for step in steps)
                    self.assertIs(kept_by_all(choice) is None, kept)

    def test_the_example_of_the_document(self):
        step = Substitution(3, ((1, 0), (2, 0), (5, 0)))
        self.assert_same(step.moved(240), 90)
        self.assertEqual(heap_word(3, 4), 240)
        self.assertEqual(heap_word(3, 4) ^ heap_word(3, 1), 90)
        self.assert_alike(kept_by_all(Choice(3, (0, 4))), LeavesBy(step, 4, 90))
        self.assert_alike(kept_by(Choice(3, (0, 4)), step), Leaves(4, 90))

    def test_a_letter_left_out(self):
        self.assert_alike(kept_by_all(Choice(3, (4,))), LeavesBy(one_step(3, 2), 4, 240 ^ 255))
        self.assert_alike(kept_by_all(Choice(3, (0, 1, 3))), LeavesBy(one_step(3, 0), 3, heap_word(3, 3) ^ 204))


if __name__ == "__main__":
    unittest.main()
