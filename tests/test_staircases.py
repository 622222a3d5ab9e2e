"""staircases.py: [10.1] to [10.4], [10.14]."""

import unittest

from lowerwords.choices import Choice
from lowerwords.errors import BadLetters, BadNumber, NotClosed, NotFalling
from lowerwords.falling import heads_of
from lowerwords.rests import rest_of
from lowerwords.staircases import all_falling, count_falling, falling_at, next_heaps, number_of_falling
from tests.support import (
    BAD_SIZES,
    NO_NUMBERS,
    SIZES,
    Case,
    descents_by_sets,
    falling_sets,
    is_falling_set,
    subset_sets,
)

MANY = {1: 3, 2: 5, 3: 10, 4: 27, 5: 119}


def falling_by_trying(letters):
    """The heaps of all falling choices of at most four letters, of all choices there are."""
    below = [sum(1 << made for made in descents_by_sets(heap)) for heap in range(2 ** letters)]
    if letters < 4:
        return [heaps for heaps in subset_sets(letters) if is_falling_set(heaps)]
    numbers = [number for number in range(2 ** 16) if all(
        below[heap] & ~number == 0 for heap in range(16) if number >> heap & 1)]
    return [tuple(heap for heap in range(16) if number >> heap & 1) for number in numbers]


def falling_by_halves():
    """The heaps of all falling choices of five letters, put together of falling ones of four letters."""
    small = falling_by_trying(4)
    joined = [first + tuple(heap + 16 for heap in second) for first in small for second in small]
    return [heaps for heaps in joined if is_falling_set(heaps)]


def in_order(letters):
    """The heaps of all falling choices in their order."""
    found = falling_by_trying(letters) if letters < 5 else falling_by_halves()
    return sorted(found, key=lambda heaps: (len(heaps), heaps))


ORDERED = {letters: in_order(letters) for letters in SIZES}


class AllFalling(Case):
    def test_how_many(self):
        for letters in SIZES:
            self.assert_same(count_falling(letters), MANY[letters])
            self.assertEqual(len(ORDERED[letters]), MANY[letters])

    def test_all_in_their_order(self):
        for letters in SIZES:
            found = list(all_falling(letters))
            self.assertEqual(found, [Choice(letters, heaps) for heaps in ORDERED[letters]])
            self.assert_same([choice.heaps for choice in found], ORDERED[letters])
            self.assertEqual(found[0].heaps, ())
            self.assertEqual(found[-1].heaps, tuple(range(2 ** letters)))
            self.assertEqual({choice.heaps for choice in found}, set(falling_sets(letters)))

    def test_the_example(self):
        due = [(), (0,), (0, 1), (0, 1, 2), (0, 1, 2, 3), (0, 1, 2, 4), (0, 1, 2, 3, 4), tuple(range(6)),
               tuple(range(7)), tuple(range(8))]
        self.assert_same([choice.heaps for choice in all_falling(3)], due)

    def test_errors(self):
        def listed(letters):
            return list(all_falling(letters))

        for bad in BAD_SIZES:
            self.assert_error(BadLetters, {}, listed, bad)
            self.assert_error(BadLetters, {}, count_falling, bad)
            for number in (0, -1, None):
                self.assert_error(BadLetters, {}, falling_at, bad, number)


class Numbers(Case):
    def test_by_number_and_back(self):
        for letters in SIZES:
            for number, heaps in enumerate(ORDERED[letters]):
                choice = falling_at(letters, number)
                self.assert_alike(choice, Choice(letters, heaps))
                self.assert_same(number_of_falling(choice), number)
                self.assert_same(number_of_falling(Choice(letters, heaps[::-1])), number)

    def test_bad_numbers(self):
        for letters in SIZES:
            for bad in NO_NUMBERS + (-1, MANY[letters], 10 ** 30):
                self.assert_error(BadNumber, {"most": MANY[letters] - 1}, falling_at, letters, bad)


class Next(Case):
    def test_against_trying_each_heap(self):
        for letters in SIZES:
            falling = set(ORDERED[letters])
            for heaps in ORDERED[letters]:
                due = tuple(
                    heap for heap in range(2 ** letters)
                    if heap not in heaps and tuple(sorted(heaps + (heap,))) in falling
                )
                choice = Choice(letters, heaps)
                self.assert_same(next_heaps(choice), due)
                self.assertIs(due == (), len(heaps) == 2 ** letters)
                heads = [2 ** letters - 1 - head for head in heads_of(rest_of(choice))]
                self.assertEqual(sorted(heads), list(due))

    def test_each_comes_of_one_with_a_heap_fewer(self):
        for letters in SIZES:
            made = {tuple(sorted(heaps + (heap,))) for heaps in ORDERED[letters]
                    for heap in next_heaps(Choice(letters, heaps))}
            self.assertEqual(made | {()}, set(ORDERED[letters]))

    def test_the_example(self):
        self.assert_same(next_heaps(falling_at(3, 3)), (3, 4))

    def test_errors(self):
        for call in (number_of_falling, next_heaps):
            for letters in SIZES:
                self.assert_error(NotClosed, {"heap": 1, "missing": 0}, call, Choice(letters, (1,)))
            for letters in SIZES[1:]:
                self.assert_error(NotClosed, {"heap": 3, "missing": 1}, call, Choice(letters, (0, 2, 3)))
                self.assert_error(NotFalling, {"heap": 2, "missing": 1}, call, Choice(letters, (0, 2)))


if __name__ == "__main__":
    unittest.main()
