"""reduced.py: [3.2] to [3.7]."""

import unittest

from lowerwords.errors import BadLetters, BadWord
from lowerwords.reduced import (
    check_words,
    even_rows,
    in_span,
    reduced_rows,
    remainder_of,
    span_size,
    sums_to,
    sums_within,
)
from tests.support import (
    BAD_SIZES,
    NO_NUMBERS,
    NO_SEQUENCES,
    SIZES,
    Case,
    all_sums,
    chance,
    rows_by_sums,
    weight,
)

MOST = 2 ** 32 - 1
BAD_WORDS = NO_NUMBERS + (-1, 2 ** 32, -(2 ** 32), 10 ** 30)
# Each function of words with a second argument, if it takes one.
WITH_WORDS = (
    (check_words, ()),
    (reduced_rows, ()),
    (span_size, ()),
    (remainder_of, (0,)),
    (in_span, (0,)),
    (sums_to, (0,)),
    (sums_within, (0,)),
)
SINGLE = (remainder_of, in_span, sums_to, sums_within)


def some_rows_of_words(seed, many=40):
    """Tuples of at most nine words: of few bits, of many bits, with doubles and 0, and dependent ones."""
    source = chance(seed)
    found = [(), (0,), (0, 0), (1,), (MOST,), (MOST, MOST), (MOST, 0, 1), (5, 3, 6), (2 ** 31, 1, 2 ** 31 + 1)]
    for bits in (2, 3, 4, 8, 16, 32):
        for _ in range(many):
            words = [source.getrandbits(bits) for _ in range(source.randrange(1, 8))]
            if source.randrange(2):
                words.append(source.choice(words) ^ source.choice(words))
            if source.randrange(2):
                words.insert(source.randrange(len(words)), source.choice(words))
            found.append(tuple(words))
    return found


def some_singles(words, seed):
    """Single words: outermost ones, sums of the words, and other ones."""
    source = chance(seed)
    sums = sorted(all_sums(words))
    bits = max(words, default=0).bit_length() + 1
    near = [source.getrandbits(min(bits, 32)) for _ in range(6)]
    return [0, 1, MOST, source.getrandbits(32)] + near + [source.choice(sums) for _ in range(4)]


class Words(Case):
    def test_the_words_in_their_order(self):
        for words in some_rows_of_words(300):
            self.assert_same(check_words(words), words)
            self.assert_same(check_words(list(words)), words)

    def test_no_sequence(self):
        for call, further in WITH_WORDS:
            for thing in NO_SEQUENCES + ({1}, {1: 1}, MOST):
                self.assert_error(BadWord, {"index": 0}, call, thing, *further)

    def test_the_first_bad_entry(self):
        for call, further in WITH_WORDS:
            for bad in BAD_WORDS:
                for index in (0, 1, 4):
                    words = [0, 7, MOST, 7, 7, 0]
                    words[index] = bad
                    for passed in (words, tuple(words), words + [None]):
                        self.assert_error(BadWord, {"index": index}, call, passed, *further)

    def test_too_many_entries_are_told_ahead_of_bad_ones(self):
        for call, further in WITH_WORDS:
            for words in ([0] * 5001, (1,) * 5001, [7, None] * 2501, [1] * 5000 + [None]):
                self.assert_error(BadWord, {"index": 0}, call, words, *further)
            self.assert_error(BadWord, {"index": 4999}, call, [1] * 4999 + [True], *further)

    def test_just_5000_entries(self):
        words = list(range(5000))
        self.assert_same(check_words(words), tuple(words))
        self.assert_same(reduced_rows(words), tuple(2 ** bit for bit in reversed(range(13))))
        self.assert_same(reduced_rows([3] * 5000), (3,))
        self.assert_same(span_size(words), 13)
        self.assert_same(remainder_of(words, 2 ** 13 + 5), 2 ** 13)
        self.assert_same(sums_to(words, 5), (1, 4))
        self.assert_same(sums_to([0] * 4999 + [9], 9), (4999,))
        self.assert_same(sums_within(words, 5), (4, 1))

    def test_bad_single_words_come_behind_the_words(self):
        for call in SINGLE:
            for bad in BAD_WORDS:
                self.assert_error(BadWord, {"index": 0}, call, [1, 2], bad)
                self.assert_error(BadWord, {"index": 0}, call, [], bad)
                self.assert_error(BadWord, {"index": 1}, call, [1, -1], bad)

    def test_nothing_passed_in_is_changed(self):
        words = [6, 5, 3, 0, 6]
        for call, further in WITH_WORDS:
            call(words, *further)
            self.assert_same(words, [6, 5, 3, 0, 6])
        even_rows(3, words)
        self.assert_same(words, [6, 5, 3, 0, 6])


class Rows(Case):
    def test_the_rows_against_a_walk_over_all_sums(self):
        for words in some_rows_of_words(301):
            sums = all_sums(words)
            rows = reduced_rows(words)
            self.assert_same(rows, rows_by_sums(sums), words)
            self.assertEqual(all_sums(rows), sums)
            self.assert_same(span_size(words), len(rows))
            self.assertEqual(2 ** len(rows), len(sums))

    def test_the_rows_are_descending_and_reduced(self):
        for words in some_rows_of_words(302):
            rows = reduced_rows(list(words))
            self.assertEqual(list(rows), sorted(set(rows), reverse=True))
            self.assertNotIn(0, rows)
            for row in rows:
                for other in rows:
                    self.assertEqual(other >> (row.bit_length() - 1) & 1, int(other == row))

    def test_the_same_sums_have_the_same_rows(self):
        source = chance(303)
        for words in some_rows_of_words(304):
            rows = reduced_rows(words)
            sums = sorted(all_sums(words))
            more = list(words) + [0, source.choice(sums), source.choice(sums)]
            source.shuffle(more)
            self.assert_same(reduced_rows(more), rows)
            self.assert_same(reduced_rows(words[::-1]), rows)
            self.assert_same(reduced_rows(words + words), rows)
            self.assert_same(reduced_rows(rows), rows)
            self.assert_same(reduced_rows(rows[::-1]), rows)

    def test_no_sum_other_than_0(self):
        for words in ((), [], (0,), [0, 0, 0]):
            self.assert_same(reduced_rows(words), ())
            self.assert_same(span_size(words), 0)

    def test_all_words(self):
        self.assert_same(reduced_rows([2 ** bit for bit in range(32)]), tuple(2 ** bit for bit in reversed(range(32))))
        self.assert_same(span_size([MOST >> bit for bit in range(32)]), 32)
        self.assert_same(reduced_rows((6, 5)), (5, 3))


class Sums(Case):
    def test_the_least_remainder(self):
        for words in some_rows_of_words(305):
            sums = all_sums(words)
            for word in some_singles(words, 306):
                self.assert_same(remainder_of(words, word), min(word ^ other for other in sums))

    def test_in_span(self):
        for words in some_rows_of_words(307):
            sums = all_sums(words)
            for word in some_singles(words, 308):
                self.assertIs(in_span(words, word), word in sums)
                self.assertIs(in_span(words, word), remainder_of(words, word) == 0)

    def test_sums_to(self):
        for words in some_rows_of_words(309):
            sums = all_sums(words)
            useful = {index for index, word in enumerate(words) if word not in all_sums(words[:index])}
            for word in some_singles(words, 310):
                found = sums_to(list(words), word)
                if word not in sums:
                    self.assertIsNone(found)
                    continue
                self.assertIs(found.__class__, tuple)
                self.assertEqual(list(found), sorted(set(found)))
                self.assertLessEqual(set(found), useful)
                total = 0
                for index in found:
                    total ^= words[index]
                self.assertEqual(total, word)

    def test_sums_to_uses_the_first_words(self):
        self.assert_same(sums_to((1, 1, 2, 3, 0, 4), 3), (0, 2))
        self.assert_same(sums_to((3, 2, 1), 1), (0, 1))
        self.assert_same(sums_to((0, 7), 7), (1,))
        self.assert_same(sums_to((5, 6), 4), None)

    def test_sums_to_0(self):
        for words in some_rows_of_words(311):
            self.assert_same(sums_to(words, 0), ())
        self.assertIsNone(sums_to((), 1))
        self.assertIsNone(sums_to((0,), 1))

    def test_sums_within(self):
        for words in some_rows_of_words(312):
            sums = all_sums(words)
            for allowed in some_singles(words, 313):
                due = {word for word in sums if word & allowed == word}
                self.assert_same(sums_within(words, allowed), rows_by_sums(due), (words, allowed))
            self.assert_same(sums_within(words, MOST), reduced_rows(words))
            self.assert_same(sums_within(words, 0), ())


class EvenRows(Case):
    def words_of(self, letters, seed, many=12):
        """Tuples of words of these letters."""
        source = chance(seed)
        full = 2 ** 2 ** letters - 1
        found = [(), (0,), (full,), tuple(1 << place for place in range(2 ** letters))]
        for _ in range(many):
            found.append(tuple(source.randrange(full + 1) for _ in range(source.randrange(1, 2 ** letters + 2))))
        return found

    def test_against_all_words(self):
        for letters in (1, 2, 3, 4):
            for words in self.words_of(letters, 314, 12 if letters < 4 else 4):
                every = range(2 ** 2 ** letters)
                due = {word for word in every if all(weight(word & other) % 2 == 0 for other in words)}
                self.assert_same(even_rows(letters, list(words)), rows_by_sums(due))

    def test_how_many_and_the_even_rows_of_them(self):
        for letters in SIZES:
            for words in self.words_of(letters, 315, 30):
                rows = even_rows(letters, words)
                self.assertEqual(len(rows), 2 ** letters - span_size(words))
                self.assert_same(rows, reduced_rows(rows))
                for row in rows:
                    self.assertTrue(all(weight(row & word) % 2 == 0 for word in words))
                self.assert_same(even_rows(letters, rows), reduced_rows(words))

    def test_no_words(self):
        self.assert_same(even_rows(1, ()), (2, 1))
        self.assert_same(even_rows(2, [0, 0]), (8, 4, 2, 1))
        self.assert_same(even_rows(2, (8, 4, 2, 1)), ())

    def test_bad_letters_come_first(self):
        for letters in BAD_SIZES:
            for words in ((), None, (-1,), [0] * 5001):
                self.assert_error(BadLetters, {}, even_rows, letters, words)

    def test_bad_words(self):
        for letters in SIZES:
            for thing in NO_SEQUENCES:
                self.assert_error(BadWord, {"index": 0}, even_rows, letters, thing)
            self.assert_error(BadWord, {"index": 0}, even_rows, letters, [0, None] * 2501)
            self.assert_same(even_rows(letters, [1] * 5000), even_rows(letters, [1]))
            for bad in BAD_WORDS + (2 ** 2 ** letters,):
                for index in (0, 2):
                    words = [0, 1, 2 ** 2 ** letters - 1]
                    words[index] = bad
                    self.assert_error(BadWord, {"index": index}, even_rows, letters, words)
                    self.assert_error(BadWord, {"index": index}, even_rows, letters, words + [-1])


if __name__ == "__main__":
    unittest.main()
