"""below.py: [2.2], [2.3]."""

import unittest

from lowerwords.below import all_below, bar_letter, descents_of, is_below, way_down
from lowerwords.errors import BadHeap
from tests.support import NO_NUMBERS, Case, all_below_by_descents, descents_by_sets, letter_set

HEAPS = range(32)
NO_HEAPS = NO_NUMBERS + (-1, 32, 10 ** 30)


def below_letter_by_letter(heap, other):
    """Whether heap is below other, by the k-th letters from the highest on."""
    one = sorted(letter_set(heap), reverse=True)
    two = sorted(letter_set(other), reverse=True)
    return len(one) <= len(two) and all(low <= high for low, high in zip(one, two))


class Below(Case):
    def test_descents(self):
        for heap in HEAPS:
            self.assert_same(descents_of(heap), tuple(sorted(descents_by_sets(heap))))
        self.assert_same(descents_of(0), ())
        self.assert_same(descents_of(1), (0,))
        self.assert_same(descents_of(4), (0, 1, 2))
        self.assert_same(descents_of(6), (2, 3, 4, 5))

    def test_all_below(self):
        for heap in HEAPS:
            self.assert_same(all_below(heap), tuple(sorted(all_below_by_descents(heap))))
        self.assert_same(all_below(0), (0,))
        self.assert_same(all_below(5), (0, 1, 2, 3, 4, 5))
        self.assert_same(all_below(31), tuple(HEAPS))

    def test_is_below(self):
        for other in HEAPS:
            below = all_below_by_descents(other)
            for heap in HEAPS:
                self.assertIs(is_below(heap, other), heap in below)
                self.assertIs(is_below(heap, other), below_letter_by_letter(heap, other))
                if is_below(heap, other):
                    self.assertLessEqual(heap, other)

    def test_the_way_down_goes_by_descents(self):
        for other in HEAPS:
            below = all_below_by_descents(other)
            for heap in HEAPS:
                way = way_down(heap, other)
                if heap not in below:
                    self.assertIsNone(way)
                    continue
                self.assertIs(way.__class__, tuple)
                self.assertEqual((way[0], way[-1]), (other, heap))
                for before, behind in zip(way, way[1:]):
                    self.assertIn(behind, descents_by_sets(before))

    def test_the_way_down_leaves_out_the_lowest_letters_and_then_replaces(self):
        for other in HEAPS:
            for heap in all_below_by_descents(other):
                letters = sorted(letter_set(other))
                due = [set(letters)]
                while len(letters) > len(letter_set(heap)):
                    letters = letters[1:]
                    due.append(set(letters))
                for index, letter in enumerate(sorted(letter_set(heap))):
                    if letters[index] != letter:
                        letters[index] = letter
                        due.append(set(letters))
                self.assertEqual([letter_set(step) for step in way_down(heap, other)], due)

    def test_known_ways(self):
        self.assert_same(way_down(5, 5), (5,))
        self.assert_same(way_down(0, 0), (0,))
        self.assert_same(way_down(0, 7), (7, 6, 4, 0))
        self.assert_same(way_down(3, 28), (28, 24, 17, 3))
        self.assert_same(way_down(1, 6), (6, 4, 1))
        self.assertIsNone(way_down(6, 5))

    def test_the_letter_that_bars_the_way(self):
        for other in HEAPS:
            below = all_below_by_descents(other)
            for heap in HEAPS:
                barring = [
                    letter
                    for letter in range(5)
                    if len([one for one in letter_set(heap) if one >= letter])
                    > len([one for one in letter_set(other) if one >= letter])
                ]
                self.assert_same(bar_letter(heap, other), max(barring, default=None))
                self.assertIs(bar_letter(heap, other) is None, heap in below)
        self.assert_same(bar_letter(16, 15), 4)
        self.assert_same(bar_letter(3, 16), 0)
        self.assert_same(bar_letter(6, 5), 1)

    def test_wrong_heaps(self):
        for thing in NO_HEAPS:
            for call in (descents_of, all_below):
                self.assert_error(BadHeap, {"index": 0}, call, thing)
            for call in (is_below, way_down, bar_letter):
                self.assert_error(BadHeap, {"index": 0}, call, thing, 31)
                self.assert_error(BadHeap, {"index": 0}, call, thing, None)
                self.assert_error(BadHeap, {"index": 0}, call, 0, thing)
                # Also where the sizes tell already that heap is not below other.
                self.assert_error(BadHeap, {"index": 0}, call, 31, thing)


if __name__ == "__main__":
    unittest.main()
