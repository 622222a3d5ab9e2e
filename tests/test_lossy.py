"""lossy.py: [6.9], [6.10]."""

import unittest

from lowerwords.choices import Choice
from lowerwords.errors import BadNumber, BadPlaces, BadWord
from lowerwords.falling import closure_of
from lowerwords.lossy import Lossy, read_lossy, sure_wrong
from lowerwords.readings import Read, read_votes
from tests.support import (
    NO_NUMBERS,
    NO_SEQUENCES,
    SIZES,
    Case,
    chance,
    code_of,
    some_heap_sets,
    subset_sets,
    weight,
    word_by_places,
)
from tests.test_leasts import top_of
from tests.test_readings import places_by_bits, reading_by_places, sure_by_size


def marks(places):
    """The word that is 1 at the places."""
    return sum(1 << place for place in set(places))


def least_of(letters, heaps):
    """The least weight of a code that is not empty."""
    return 2 ** (letters - top_of(heaps))


def lossy_by_places(letters, heaps, word, lost):
    """(word, wrong, sure) or None, straight from the document."""
    blank = marks(lost)
    kept = 2 ** 2 ** letters - 1 - blank
    found = []
    for filled in (word & kept, (word & kept) + blank):
        reading = reading_by_places(letters, heaps, filled)
        if len(reading) == 3 and len(reading[1]) <= sure_by_size(letters, heaps):
            found.append((reading[0], places_by_bits(letters, (reading[0] ^ word) & kept)))
    if not found:
        return None
    told, wrong = found[-1] if len(found) == 2 and len(found[1][1]) < len(found[0][1]) else found[0]
    return told, wrong, not heaps or 2 * len(wrong) + weight(blank) < least_of(letters, heaps)


def some_cases(seed):
    """Choices of all numbers of letters with words and lost places: all for few letters, some for more."""
    for letters in (1, 2):
        for heaps in subset_sets(letters):
            for word in range(2 ** 2 ** letters):
                for blank in range(2 ** 2 ** letters):
                    yield Choice(letters, heaps), word, places_by_bits(letters, blank)
    source = chance(seed)
    for letters, many in ((3, 60), (4, 30), (5, 12)):
        for heaps in some_heap_sets(letters, many, seed) + [(), tuple(range(2 ** letters))]:
            for choice in (Choice(letters, heaps), closure_of(Choice(letters, heaps[:2]))):
                yield from words_with_lost_places(choice, source)


def words_with_lost_places(choice, source):
    """A choice with words of its code and other words, some places of them wrong, and with lost places."""
    places = range(2 ** choice.letters)
    full = 2 ** 2 ** choice.letters
    for _ in range(4):
        word = 0
        for heap in choice.heaps:
            word ^= source.randrange(2) * word_by_places(choice.letters, heap)
        lost = tuple(source.sample(places, source.randrange(min(6, len(places)))))
        wrong = source.sample(places, source.randrange(4))
        yield choice, word ^ marks(wrong), lost
    yield choice, source.randrange(full), tuple(source.sample(places, source.randrange(len(places) + 1)))


class Results(Case):
    def test_result(self):
        self.assert_result(Lossy, ("word", "wrong", "sure"))


class Reading(Case):
    def test_against_the_document(self):
        kinds = set()
        for choice, word, lost in some_cases(460):
            due = lossy_by_places(choice.letters, choice.heaps, word, lost)
            result = read_lossy(choice, word, lost)
            if due is None:
                self.assertIsNone(result)
                kinds.add(None)
                continue
            self.assert_alike(result, Lossy(*due))
            self.assert_same((result.word, result.wrong, result.sure), due)
            kinds.add(result.sure)
            if not choice.heaps:
                self.assertIs(result.sure, True)
        self.assertEqual(kinds, {None, True, False})

    def test_what_stands_at_lost_places_means_nothing(self):
        source = chance(461)
        for choice, word, lost in some_cases(462):
            if choice.letters < 3 and source.randrange(9):
                continue
            result = read_lossy(choice, word, lost)
            for _ in range(2):
                other = word ^ (marks(lost) & source.getrandbits(2 ** choice.letters))
                self.assertEqual(read_lossy(choice, other, lost), result)

    def test_sure_against_all_words_of_the_code(self):
        met = set()
        for choice, word, lost in some_cases(463):
            if choice.size > 6:
                continue
            off = 2 ** 2 ** choice.letters - 1 - marks(lost)
            near = [
                own for own in code_of(choice.letters, choice.heaps)
                if not choice.heaps
                or 2 * weight((own ^ word) & off) + len(set(lost)) < least_of(choice.letters, choice.heaps)
            ]
            self.assertLessEqual(len(near), 1)
            result = read_lossy(choice, word, lost)
            self.assertEqual(result is not None and result.sure, len(near) == 1)
            if near:
                self.assertEqual(result.word, near[0])
                met.add((bool(lost), bool(result.wrong)))
        self.assertEqual(len(met), 4)

    def test_the_better_one_is_taken_and_the_first_of_equal_ones(self):
        choice = Choice(2, (0,))
        # With places 0 to 2 lost, 0 and 15 are both read; place 3 tells which of them is better.
        for word in range(8):
            self.assert_alike(read_lossy(choice, word, (0, 1, 2)), Lossy(0, (), True))
            self.assert_alike(read_lossy(choice, word + 8, (0, 1, 2)), Lossy(15, (), True))
        for word in range(16):
            self.assert_alike(read_lossy(choice, word, (0, 1, 2, 3)), Lossy(0, (), False))
        self.assertIsNone(read_lossy(choice, 3, ()))
        for word in (2, 3):
            self.assert_alike(read_lossy(choice, word, (0,)), Lossy(0, (1,), True))
        for word in (14, 15):
            self.assert_alike(read_lossy(choice, word ^ 2, (0,)), Lossy(15, (1,), True))

    def test_lost_places_in_any_order_with_doubles(self):
        choice = Choice(3, (0, 1, 2, 4))
        for word in range(256):
            result = read_lossy(choice, word, (2, 7))
            for lost in ([7, 2], (7, 2, 7), [2, 7, 2, 2]):
                self.assertEqual(read_lossy(choice, word, lost), result)

    def test_without_lost_places_it_is_read_votes(self):
        for choice, word, _ in some_cases(464):
            read = read_votes(choice, word)
            result = read_lossy(choice, word, [])
            self.assertEqual(result is not None, isinstance(read, Read))
            if result is not None:
                self.assert_alike(result, Lossy(read.word, read.wrong, True))

    def test_the_empty_choice(self):
        for letters in SIZES:
            places = tuple(range(2 ** letters))
            full = 2 ** 2 ** letters - 1
            self.assert_alike(read_lossy(Choice(letters, ()), full, ()), Lossy(0, places, True))
            self.assert_alike(read_lossy(Choice(letters, ()), full, (1,)), Lossy(0, (0, *places[2:]), True))
            self.assert_alike(read_lossy(Choice(letters, ()), full, places), Lossy(0, (), True))

    def test_errors(self):
        for letters in SIZES:
            places = 2 ** letters
            for heaps in ((), (0,), (1,)):
                choice = Choice(letters, heaps)
                for bad in NO_NUMBERS + (-1, 2 ** places):
                    self.assert_error(BadWord, {"index": 0}, read_lossy, choice, bad, ())
                    self.assert_error(BadWord, {"index": 0}, read_lossy, choice, bad, None)
                for bad in NO_SEQUENCES:
                    self.assert_error(BadPlaces, {"index": 0}, read_lossy, choice, 0, bad)
                for bad in NO_NUMBERS + (-1, places):
                    self.assert_error(BadPlaces, {"index": 0}, read_lossy, choice, 0, [bad])
                    self.assert_error(BadPlaces, {"index": 2}, read_lossy, choice, 0, (0, 1, bad, bad))


class Sure(Case):
    def test_all_numbers_of_lost_places(self):
        for letters in SIZES:
            places = 2 ** letters
            for heaps in [(heap,) for heap in range(places)] + some_heap_sets(letters, 5, 465):
                for many in range(places + 1):
                    result = sure_wrong(Choice(letters, heaps), many)
                    if not heaps:
                        self.assert_same(result, places)
                        continue
                    least = least_of(letters, heaps)
                    let = [wrong for wrong in range(places + 1) if 2 * wrong + many < least]
                    self.assert_same(result, max(let, default=-1))
                    self.assertEqual(result == -1, many >= least)

    def test_plain_cases(self):
        choice = Choice(3, (0,))
        self.assert_same([sure_wrong(choice, many) for many in range(9)], [3, 3, 2, 2, 1, 1, 0, 0, -1])
        self.assert_same([sure_wrong(Choice(3, (0, 7)), many) for many in (0, 1, 8)], [0, -1, -1])
        self.assert_same([sure_wrong(Choice(3, ()), many) for many in (0, 8)], [8, 8])

    def test_errors(self):
        for letters in SIZES:
            places = 2 ** letters
            for heaps in ((), (0,), (places - 1,)):
                for bad in NO_NUMBERS + (-1, places + 1, 10 ** 30):
                    self.assert_error(BadNumber, {"most": places}, sure_wrong, Choice(letters, heaps), bad)


if __name__ == "__main__":
    unittest.main()
