"""votes.py: [6.2], [6.3], [6.10]."""

import unittest

from lowerwords.errors import BadHeap, BadLetters, BadPlaces, BadWord
from lowerwords.votes import ballots_of, spoilt_votes, split_votes, votes_for
from lowerwords.words import heaps_of
from tests.support import (
    BAD_SIZES,
    NO_NUMBERS,
    NO_SEQUENCES,
    SIZES,
    Case,
    chance,
    letter_set,
    some_words,
)


def ballots_by_places(letters, heap):
    """The ballots of a heap, by a walk over all places."""
    ballots = {}
    for place in range(2 ** letters):
        off = tuple(sorted(letter_set(place) - letter_set(heap)))
        ballots.setdefault(off, []).append(place)
    return tuple(sorted(tuple(ballot) for ballot in ballots.values()))


def votes_by_places(letters, word, heap):
    """The votes of a word, ballot by ballot."""
    return tuple(sum(word >> place & 1 for place in ballot) % 2 for ballot in ballots_by_places(letters, heap))


class Ballots(Case):
    def test_against_all_places(self):
        for letters in SIZES:
            for heap in range(2 ** letters):
                ballots = ballots_of(letters, heap)
                self.assert_same(ballots, ballots_by_places(letters, heap))
                self.assertEqual(sorted(place for ballot in ballots for place in ballot), list(range(2 ** letters)))
                self.assertEqual({len(ballot) for ballot in ballots}, {2 ** len(letter_set(heap))})

    def test_the_examples_of_the_document(self):
        self.assert_same(ballots_of(3, 2), ((0, 2), (1, 3), (4, 6), (5, 7)))
        self.assert_same(ballots_of(3, 0), tuple((place,) for place in range(8)))
        self.assert_same(ballots_of(3, 7), (tuple(range(8)),))

    def test_errors(self):
        for letters in BAD_SIZES:
            for heap in (0, None, -1):
                self.assert_error(BadLetters, {}, ballots_of, letters, heap)
        for letters in SIZES:
            for bad in NO_NUMBERS + (-1, 2 ** letters):
                self.assert_error(BadHeap, {"index": 0}, ballots_of, letters, bad)


class Votes(Case):
    def test_votes(self):
        for letters in SIZES:
            for word in some_words(letters, 40, 430):
                for heap in range(2 ** letters):
                    votes = votes_for(letters, word, heap)
                    self.assert_same(votes, votes_by_places(letters, word, heap))

    def test_the_vote_by_heaps_of_the_word(self):
        for letters in SIZES:
            for word in some_words(letters, 12, 431)[::7]:
                heaps = [letter_set(heap) for heap in heaps_of(letters, word)]
                for heap in range(2 ** letters):
                    own = letter_set(heap)
                    due = [
                        sum(own <= other and other - own <= letter_set(ballot[0]) for other in heaps) % 2
                        for ballot in ballots_by_places(letters, heap)
                    ]
                    self.assert_same(votes_for(letters, word, heap), tuple(due))

    def test_the_examples_of_the_document(self):
        self.assert_same(votes_for(3, 32, 1), (0, 0, 1, 0))
        self.assert_same(votes_for(3, 32, 2), (0, 0, 0, 1))
        self.assert_same(votes_for(3, 32, 4), (0, 1, 0, 0))
        self.assert_same(votes_for(3, 32, 0), (0, 0, 0, 0, 0, 1, 0, 0))
        self.assert_same(votes_for(3, 33, 1), (1, 0, 1, 0))

    def test_errors(self):
        for letters in BAD_SIZES:
            for word, heap in ((0, 0), (None, None), (-1, -1)):
                self.assert_error(BadLetters, {}, votes_for, letters, word, heap)
        for letters in SIZES:
            for bad in NO_NUMBERS + (-1, 2 ** 2 ** letters):
                for heap in (0, None, -1):
                    self.assert_error(BadWord, {"index": 0}, votes_for, letters, bad, heap)
            for bad in NO_NUMBERS + (-1, 2 ** letters):
                self.assert_error(BadHeap, {"index": 0}, votes_for, letters, 1, bad)


class Spoilt(Case):
    def test_against_all_places(self):
        source = chance(432)
        for letters in SIZES:
            for _ in range(60):
                places = [source.randrange(2 ** letters) for _ in range(source.randrange(2 ** letters + 1))]
                for heap in range(2 ** letters):
                    due = sum(len(set(ballot) & set(places)) % 2 for ballot in ballots_by_places(letters, heap))
                    self.assert_same(spoilt_votes(letters, places, heap), due)
                    self.assert_same(spoilt_votes(letters, tuple(places), heap), due)

    def test_doubles_are_dropped(self):
        self.assert_same(spoilt_votes(3, (5, 5), 1), 1)
        self.assert_same(spoilt_votes(3, (5, 4, 5, 4, 4), 1), 0)
        self.assert_same(spoilt_votes(3, (5, 4, 5), 2), 2)
        self.assert_same(spoilt_votes(3, (), 2), 0)
        places = [1, 1, 0]
        spoilt_votes(1, places, 0)
        self.assertEqual(places, [1, 1, 0])

    def test_errors(self):
        for letters in BAD_SIZES:
            for places, heap in (((), 0), (None, None), ((-1,), -1)):
                self.assert_error(BadLetters, {}, spoilt_votes, letters, places, heap)
        for letters in SIZES:
            for heap in (0, None, -1):
                for thing in NO_SEQUENCES:
                    self.assert_error(BadPlaces, {"index": 0}, spoilt_votes, letters, thing, heap)
                for bad in NO_NUMBERS + (-1, 2 ** letters):
                    self.assert_error(BadPlaces, {"index": 2}, spoilt_votes, letters, (0, 1, bad, bad), heap)
            for bad in NO_NUMBERS + (-1, 2 ** letters):
                self.assert_error(BadHeap, {"index": 0}, spoilt_votes, letters, (0, 1), bad)


class Split(Case):
    def test_all_words(self):
        for letters in SIZES:
            for word in some_words(letters, 40, 433):
                heaps = heaps_of(letters, word)
                for heap in range(2 ** letters):
                    over = [other for other in heaps if letter_set(heap) < letter_set(other)]
                    found = split_votes(letters, word, heap)
                    self.assert_same(found, min(over, default=None))
                    votes = set(votes_by_places(letters, word, heap))
                    self.assertIs(len(votes) == 1, found is None)
                    if found is None:
                        self.assertEqual(votes, {int(heap in heaps)})

    def test_errors(self):
        for letters in BAD_SIZES:
            for word, heap in ((0, 0), (None, None), (-1, -1)):
                self.assert_error(BadLetters, {}, split_votes, letters, word, heap)
        for letters in SIZES:
            for bad in NO_NUMBERS + (-1, 2 ** 2 ** letters):
                for heap in (0, None, -1):
                    self.assert_error(BadWord, {"index": 0}, split_votes, letters, bad, heap)
            for bad in NO_NUMBERS + (-1, 2 ** letters):
                self.assert_error(BadHeap, {"index": 0}, split_votes, letters, 1, bad)


if __name__ == "__main__":
    unittest.main()
