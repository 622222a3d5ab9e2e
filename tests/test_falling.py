"""falling.py: [2.4], [2.5]."""

import unittest

from lowerwords.choices import Choice, all_words
from lowerwords.errors import NotClosed, NotFalling
from lowerwords.falling import (
    check_closed,
    check_falling,
    closed_by,
    closed_gap,
    closure_of,
    first_gap,
    heads_of,
    is_closed,
    is_falling,
)
from lowerwords.substitutions import all_triangular
from lowerwords.words import heaps_of
from tests.support import SIZES, Case, all_below_by_descents, all_within, descents_by_sets, some_heap_sets

BELOW = [all_below_by_descents(heap) for heap in range(32)]
WITHIN = [all_within(heap) for heap in range(32)]


def united(heaps, table):
    """All heaps that a table has for some heaps, ascending."""
    return tuple(sorted(set().union(*[table[heap] for heap in heaps])))


def gap_by_sets(heaps, made_of):
    """The first heap of which something missing is made, and the least such thing; or None."""
    gaps = [(heap, made) for heap in heaps for made in made_of(heap) if made not in heaps]
    return min(gaps, default=None)


def without_one(heap):
    """The heaps that come of a heap by leaving out one letter."""
    return {part for part in WITHIN[heap] if bin(part ^ heap).count("1") == 1}


def many_sets():
    """Sets of heaps with their letters: chance ones, and closed and falling ones with a heap more or less."""
    for letters in SIZES:
        for heaps in some_heap_sets(letters, 50, 40):
            yield letters, heaps
            for table in (BELOW, WITHIN):
                full = united(heaps, table)
                yield letters, full
                if full:
                    yield letters, full[:-1]
                    yield letters, full[:len(full) // 2] + full[len(full) // 2 + 1:]
    for number in range(256):
        yield 3, tuple(heap for heap in range(8) if number >> heap & 1)


class Falling(Case):
    def test_gaps(self):
        for letters, heaps in many_sets():
            choice = Choice(letters, heaps)
            self.assert_same(closed_gap(choice), gap_by_sets(heaps, without_one))
            self.assert_same(first_gap(choice), gap_by_sets(heaps, descents_by_sets))

    def test_closed_and_falling(self):
        for letters, heaps in many_sets():
            choice = Choice(letters, heaps)
            self.assertIs(is_closed(choice), united(heaps, WITHIN) == heaps)
            self.assertIs(is_falling(choice), united(heaps, BELOW) == heaps)
            if is_falling(choice):
                self.assertTrue(is_closed(choice))

    def test_checks(self):
        seen = set()
        for letters, heaps in many_sets():
            choice = Choice(letters, heaps)
            gap = gap_by_sets(heaps, without_one)
            if gap is not None:
                told = {"heap": gap[0], "missing": gap[1]}
                self.assert_error(NotClosed, told, check_closed, choice)
                self.assert_error(NotClosed, told, check_falling, choice)
                seen.add("open")
                continue
            self.assertIs(check_closed(choice), choice)
            gap = gap_by_sets(heaps, descents_by_sets)
            if gap is not None:
                told = {"heap": gap[0], "missing": gap[1]}
                self.assert_error(NotFalling, told, check_falling, choice)
                seen.add("closed")
            else:
                self.assertIs(check_falling(choice), choice)
                seen.add("falling")
        self.assertEqual(seen, {"open", "closed", "falling"})

    def test_a_choice_that_is_not_closed_may_have_an_earlier_gap_that_is_no_letter_left_out(self):
        # Heap 2 lacks heap 1 below it, but the first heap with a letter left out that is missing is of heap 12.
        choice = Choice(4, (0, 2, 4, 12))
        self.assert_same(first_gap(choice), (2, 1))
        self.assert_same(closed_gap(choice), (12, 8))
        self.assert_error(NotClosed, {"heap": 12, "missing": 8}, check_falling, choice)

    def test_the_empty_choice_is_closed_and_falling(self):
        for letters in SIZES:
            choice = Choice(letters, ())
            self.assertIsNone(closed_gap(choice))
            self.assertIsNone(first_gap(choice))
            self.assertIs(is_closed(choice), True)
            self.assertIs(is_falling(choice), True)
            self.assertIs(check_closed(choice), choice)
            self.assertIs(check_falling(choice), choice)
            self.assert_alike(closed_by(choice), choice)
            self.assert_alike(closure_of(choice), choice)
            self.assert_same(heads_of(choice), ())

    def test_the_example_of_the_document(self):
        choice = Choice(3, (0, 4))
        self.assert_same(first_gap(choice), (4, 1))
        self.assertIsNone(closed_gap(choice))
        self.assertIs(is_closed(choice), True)
        self.assertIs(is_falling(choice), False)
        self.assert_error(NotFalling, {"heap": 4, "missing": 1}, check_falling, choice)

    def test_how_many_choices_are_falling(self):
        for letters, due in ((1, 3), (2, 5), (3, 10)):
            heaps = range(2 ** letters)
            choices = [
                Choice(letters, [heap for heap in heaps if number >> heap & 1]) for number in range(2 ** 2 ** letters)
            ]
            self.assertEqual(len([choice for choice in choices if is_falling(choice)]), due)


class LeastChoices(Case):
    def test_least_closed_and_least_falling_choice(self):
        for letters, heaps in many_sets():
            choice = Choice(letters, heaps)
            self.assert_alike(closed_by(choice), Choice(letters, united(heaps, WITHIN)))
            self.assert_alike(closure_of(choice), Choice(letters, united(heaps, BELOW)))
            self.assert_same(choice.heaps, heaps)

    def test_what_is_returned_is_new(self):
        choice = Choice(2, (0, 1))
        self.assertIsNot(closed_by(choice), choice)
        self.assertIsNot(closure_of(choice), choice)

    def test_heads(self):
        for letters, heaps in many_sets():
            choice = Choice(letters, heaps)
            due = [heap for heap in heaps if not any(heap in BELOW[other] for other in heaps if other != heap)]
            self.assert_same(heads_of(choice), tuple(due))
            self.assert_alike(closure_of(Choice(letters, due)), closure_of(choice))
        self.assert_same(heads_of(Choice(3, (0, 1, 2, 3, 4))), (3, 4))
        self.assert_same(heads_of(Choice(3, (0, 1, 2, 4, 5))), (5,))

    def test_the_closure_has_the_sums_of_all_moved_words(self):
        for letters in (1, 2, 3):
            for heaps in some_heap_sets(letters, 4, 41):
                choice = Choice(letters, heaps)
                if choice.size > 4:
                    continue
                sums = {0}
                for substitution in all_triangular(letters):
                    for word in all_words(choice):
                        moved = substitution.moved(word)
                        if moved not in sums:
                            sums |= {moved ^ other for other in sums}
                found = {heap for word in sums for heap in heaps_of(letters, word)}
                closure = closure_of(choice)
                self.assertEqual(found, set(closure.heaps))
                self.assertEqual(len(sums), 2 ** closure.size)


if __name__ == "__main__":
    unittest.main()
