"""data.py: [9.1] to [9.6], [9.11], [9.12]."""

import itertools
import unittest

from lowerwords.choices import Choice
from lowerwords.data import (
    Dependent,
    bits_of,
    check_bits,
    data_gap,
    data_places,
    free_gap,
    write_at,
    write_data,
)
from lowerwords.errors import BadBits, BadPlaces, BadWord, NotData, NotInCode
from lowerwords.falling import closed_by, closure_of, is_closed
from lowerwords.groups import group_size, member_at
from lowerwords.keeping import kept_by
from lowerwords.losses import Clash, Filled, Hidden, Hiding, Many, Most, told_lost
from lowerwords.rests import rest_of, rest_rows
from lowerwords.substitutions import Substitution
from lowerwords.words import heaps_of
from tests.support import (
    NO_NUMBERS,
    NO_SEQUENCES,
    SIZES,
    Case,
    all_sums,
    chance,
    code_of,
    some_heap_sets,
    subset_sets,
    weight,
)
from tests.test_losses import all_cases, marks, rest_words, small_cases, words_within
from tests.test_readings import places_by_bits


def values_at(word, places):
    """The values of a word at the places, in their order."""
    return tuple(word >> place & 1 for place in places)


def some_choices(seed, many):
    """Choices of all numbers of letters: closed ones, falling ones and others."""
    for letters in SIZES:
        for heaps in [(), tuple(range(2 ** letters))] + some_heap_sets(letters, many, seed):
            choice = Choice(letters, heaps)
            yield from (choice, closed_by(choice), closure_of(choice))


class Results(Case):
    def test_result(self):
        self.assert_result(Dependent, ("word",), (Hidden, Filled, Clash))
        self.assert_unlike(Dependent(0), Many(0, 0))
        self.assert_unlike(Dependent(0), Hiding(0, 0))
        self.assert_unlike(Dependent(0), Most(0, 0))


class Bits(Case):
    def test_bits(self):
        for many in range(5):
            for bits in itertools.product((0, 1), repeat=many):
                self.assert_same(check_bits(bits, many), bits)
                self.assert_same(check_bits(list(bits), many), bits)

    def test_the_index_of_what_is_wrong(self):
        for bad in NO_SEQUENCES:
            for many in (0, 1, 2):
                self.assert_error(BadBits, {"index": 0}, check_bits, bad, many)
        for many in range(6):
            for number in range(8):
                for bits in ([1] * number, (True,) * number, [None] * number):
                    if number != many:
                        self.assert_error(BadBits, {"index": min(number, many)}, check_bits, bits, many)
        for bad in NO_NUMBERS + (-1, 2):
            for index in range(4):
                bits = [0, 1, 1, 0]
                bits[index] = bad
                self.assert_error(BadBits, {"index": index}, check_bits, bits, 4)
                later = (None,) * (3 - index)
                self.assert_error(BadBits, {"index": index}, check_bits, tuple(bits[:index + 1]) + later, 4)


class Writing(Case):
    def test_just_one_word_has_the_bits(self):
        for choice in some_choices(490, 12):
            if choice.size > 7:
                continue
            places = data_places(choice)
            self.assert_same(places, tuple(sorted(choice.heaps)))
            words = {}
            for word in code_of(choice.letters, choice.heaps):
                words.setdefault(values_at(word, places), []).append(word)
            for bits in itertools.product((0, 1), repeat=choice.size):
                self.assert_same([write_data(choice, bits)], words[bits])
                self.assert_same([write_data(choice, list(bits))], words[bits])
                self.assert_same(bits_of(choice, words[bits][0]), bits)

    def test_bits_come_back_from_great_choices(self):
        source = chance(491)
        for choice in some_choices(492, 10):
            for _ in range(3):
                bits = tuple(source.randrange(2) for _ in range(choice.size))
                word = write_data(choice, bits)
                self.assertLessEqual(set(heaps_of(choice.letters, word)), set(choice.heaps))
                self.assert_same(bits_of(choice, word), bits)

    def test_the_example(self):
        choice = Choice(2, (0, 1))
        self.assert_same(data_places(choice), (0, 1))
        self.assert_same(write_data(choice, (0, 1)), 10)
        self.assert_same(bits_of(choice, 10), (0, 1))
        self.assert_same(bits_of(Choice(3, ()), 0), ())
        self.assert_same(write_data(Choice(3, ()), []), 0)

    def test_wrong_bits(self):
        for letters in SIZES:
            for heaps in ((), (0,), (0, 1), tuple(range(2 ** letters))):
                choice = Choice(letters, heaps)
                size = len(heaps)
                for bad in NO_SEQUENCES:
                    self.assert_error(BadBits, {"index": 0}, write_data, choice, bad)
                self.assert_error(BadBits, {"index": size}, write_data, choice, [True] * (size + 1))
                if size:
                    self.assert_error(BadBits, {"index": size - 1}, write_data, choice, [True] * (size - 1))
                    for bad in NO_NUMBERS + (-1, 2):
                        self.assert_error(BadBits, {"index": size - 1}, write_data, choice, [0] * (size - 1) + [bad])

    def test_wrong_words(self):
        for letters in SIZES:
            for heaps in ((), (0,), (1,)):
                for bad in NO_NUMBERS + (-1, 2 ** 2 ** letters):
                    self.assert_error(BadWord, {"index": 0}, bits_of, Choice(letters, heaps), bad)
        source = chance(493)
        for choice in some_choices(494, 6):
            for _ in range(8):
                word = source.getrandbits(2 ** choice.letters)
                outside = sorted(set(heaps_of(choice.letters, word)) - set(choice.heaps))
                if outside:
                    self.assert_error(NotInCode, {"heap": outside[0]}, bits_of, choice, word)
                else:
                    self.assert_same(bits_of(choice, word), values_at(word, choice.heaps))


class Free(Case):
    def test_against_all_words(self):
        met = set()
        for choice, places in small_cases(495):
            code = code_of(choice.letters, choice.heaps)
            free = len({values_at(word, places) for word in code}) == 2 ** len(places)
            result = free_gap(choice, places)
            self.assertIs(result is None, free)
            within = words_within(rest_words(choice.letters, choice.heaps), places) - {0}
            met.add((free, is_closed(choice)))
            if free:
                self.assertEqual(within, set())
            else:
                self.assert_alike(result, Dependent(min(within)))
                self.assertIs(result.word.__class__, int)
        self.assertEqual(len(met), 4)

    def test_more_letters(self):
        for choice, places in all_cases(496):
            if choice.letters < 4:
                continue
            code = code_of(choice.letters, choice.heaps)
            free = len({values_at(word, places) for word in code}) == 2 ** len(places)
            result = free_gap(choice, places)
            self.assertIs(result is None, free)
            if not free:
                self.assertEqual(result.word & marks(places), result.word)
                self.assertEqual({weight(word & result.word) % 2 for word in code}, {0})
        source = chance(497)
        for _ in range(20):
            choice = Choice(5, source.sample(range(32), 24))
            places = source.sample(range(32), 25)
            within = words_within(all_sums(rest_rows(choice)), places) - {0}
            self.assertEqual(free_gap(choice, places), Dependent(min(within)) if within else None)

    def test_no_places_are_free(self):
        for choice in some_choices(498, 5):
            self.assertIsNone(free_gap(choice, ()))
            self.assertIsNone(free_gap(choice, choice.heaps))

    def test_any_order_with_doubles(self):
        for choice, places in small_cases(499):
            self.assertEqual(free_gap(choice, list(places)[::-1] + list(places)), free_gap(choice, places))


class DataPlaces(Case):
    def test_against_all_words(self):
        met = set()
        for choice, places in small_cases(500):
            code = code_of(choice.letters, choice.heaps)
            told = [values_at(word, places) for word in code]
            data = len(set(told)) == len(told) == 2 ** len(places)
            result = data_gap(choice, places)
            others = tuple(place for place in range(2 ** choice.letters) if place not in places)
            hidden = words_within(code, others) - {0}
            self.assertIs(result is None, data)
            if data:
                met.add("data")
            elif hidden:
                self.assert_alike(result, Hidden(min(hidden)))
                met.add("both" if free_gap(choice, places) else "hidden")
            else:
                self.assert_alike(result, Dependent(free_gap(choice, places).word))
                met.add("dependent")
            if len(places) < choice.size:
                self.assertIs(result.__class__, Hidden)
            if len(places) > choice.size:
                self.assertIsNotNone(result)
        self.assertEqual(met, {"data", "hidden", "both", "dependent"})

    def test_more_letters(self):
        for choice in some_choices(501, 10):
            places = choice.heaps
            self.assertIsNone(data_gap(choice, places))
            if places:
                self.assert_alike(data_gap(choice, places[1:]), Hidden(told_lost(
                    choice, [place for place in range(2 ** choice.letters) if place not in places[1:]]).word))
            more = [place for place in range(2 ** choice.letters) if place not in places][:1]
            if more:
                self.assert_alike(data_gap(choice, [*places, *more]), free_gap(choice, [*places, *more]))
                self.assertIs(data_gap(choice, [*places, *more]).__class__, Dependent)

    def test_any_order_with_doubles(self):
        for choice, places in small_cases(502):
            self.assertEqual(data_gap(choice, list(places)[::-1] + list(places)), data_gap(choice, places))

    def test_the_example(self):
        choice = Choice(2, (0, 1))
        self.assert_alike(data_gap(choice, (0, 2)), Hidden(10))
        self.assert_alike(data_gap(choice, (0, 1, 2)), Dependent(5))
        self.assertIsNone(data_gap(choice, (2, 3)))

    def test_errors(self):
        for letters in SIZES:
            for heaps in ((), (0,), (1,)):
                choice = Choice(letters, heaps)
                for call, further in ((free_gap, ()), (data_gap, ()), (write_at, (None,)), (write_at, ((),))):
                    for bad in NO_SEQUENCES:
                        self.assert_error(BadPlaces, {"index": 0}, call, choice, bad, *further)
                    for bad in NO_NUMBERS + (-1, 2 ** letters):
                        self.assert_error(BadPlaces, {"index": 0}, call, choice, [bad], *further)
                        self.assert_error(BadPlaces, {"index": 2}, call, choice, (1, 0, bad, bad), *further)


class WritingAt(Case):
    def test_all_data_places_of_few_letters(self):
        many = 0
        for choice, places in small_cases(503):
            if choice.size != len(places) or data_gap(choice, places) is not None:
                continue
            many += places != choice.heaps
            code = code_of(choice.letters, choice.heaps)
            for bits in list(itertools.product((0, 1), repeat=len(places)))[::1 if len(places) < 4 else 7]:
                due = [word for word in code if values_at(word, places) == bits]
                self.assert_same([write_at(choice, places, bits)], due)
        self.assertGreater(many, 20)

    def test_data_places_of_more_letters(self):
        source = chance(504)
        many = 0
        for choice in some_choices(505, 7):
            for _ in range(3):
                # Any places that are taken on one by one as long as they are free end up as data places.
                places = []
                for place in source.sample(range(2 ** choice.letters), 2 ** choice.letters):
                    if free_gap(choice, places + [place]) is None:
                        places.append(place)
                self.assertEqual(len(places), choice.size)
                many += sorted(places) != list(choice.heaps)
                bits = [source.randrange(2) for _ in places]
                word = write_at(choice, places, bits)
                self.assertLessEqual(set(heaps_of(choice.letters, word)), set(choice.heaps))
                self.assertEqual(values_at(word, sorted(places)), tuple(bits))
                self.assert_same(write_at(choice, places + places[::-1], tuple(bits)), word)
        self.assertGreater(many, 50)

    def test_errors_in_their_order(self):
        choice = Choice(2, (0, 1))
        for bits in (None, (), (0, 1), (True, 1)):
            self.assert_error(NotData, {}, write_at, choice, (0, 2), bits)
            self.assert_error(NotData, {}, write_at, choice, (0,), bits)
            self.assert_error(NotData, {}, write_at, choice, (0, 1, 2), bits)
            self.assert_error(BadPlaces, {"index": 1}, write_at, choice, (0, 4), bits)
        for letters in SIZES:
            for heaps in ((), (0,), (0, 1), tuple(range(2 ** letters))):
                choice = Choice(letters, heaps)
                size = len(heaps)
                for bad in NO_SEQUENCES:
                    self.assert_error(BadBits, {"index": 0}, write_at, choice, heaps, bad)
                self.assert_error(BadBits, {"index": size}, write_at, choice, heaps, [True] * (size + 1))
                if size:
                    self.assert_error(BadBits, {"index": size - 1}, write_at, choice, heaps, [True] * (size - 1))
                    self.assert_error(BadBits, {"index": size - 1}, write_at, choice, heaps + heaps, [0] * (size - 1))
                    self.assert_error(BadBits, {"index": size - 1}, write_at, choice, heaps, [0] * (size - 1) + [True])
                    self.assert_error(BadBits, {"index": size}, write_at, choice, heaps + heaps, [0] * (2 * size))


class AllPlaces(Case):
    def test_told_for_a_closed_choice_exactly_if_free_for_its_rest(self):
        met = set()
        for choice, places in all_cases(506, 16):
            choice = closed_by(choice)
            told = told_lost(choice, places)
            free = free_gap(rest_of(choice), places)
            self.assertIs(told is None, free is None)
            if told is not None:
                self.assertEqual(told.word, free.word)
            met.add(told is None)
        self.assertEqual(len(met), 2)

    def test_the_other_places_are_data_places_of_the_rest(self):
        met = set()
        for choice, places in small_cases(507):
            choice = closed_by(choice)
            others = [place for place in range(2 ** choice.letters) if place not in places]
            data = data_gap(choice, places) is None
            self.assertIs(data_gap(rest_of(choice), others) is None, data)
            met.add(data)
        self.assertEqual(len(met), 2)

    def test_what_keeps_the_code_leads_data_places_to_data_places(self):
        source = chance(508)
        for choice in some_choices(509, 6):
            choice = closure_of(choice)
            for _ in range(4):
                member = member_at(choice, source.randrange(group_size(choice)))
                places = places_by_bits(choice.letters, member.moved(marks(choice.heaps)))
                self.assertIsNone(data_gap(choice, places))

    def test_what_keeps_any_code_of_two_letters(self):
        lots = [(first, second) for first in (1, 2, 3) for second in (1, 2, 3) if first != second]
        pairs = [(0, 0), (0, 1), (1, 0), (1, 1)]
        every = [Substitution(2, tuple(zip(pair, bits))) for pair in lots for bits in pairs]
        met = 0
        for heaps in subset_sets(2):
            choice = Choice(2, heaps)
            kept = [one for one in every if kept_by(choice, one) is None]
            for blank in range(16):
                if data_gap(choice, places_by_bits(2, blank)) is None:
                    for one in kept:
                        self.assertIsNone(data_gap(choice, places_by_bits(2, one.moved(blank))))
                        met += one.moved(blank) != blank
        self.assertGreater(met, 100)


if __name__ == "__main__":
    unittest.main()
