"""losses.py: [7.1] to [7.10]."""

import functools
import itertools
import unittest

from lowerwords.choices import Choice
from lowerwords.errors import BadNumber, BadPlaces, BadWord, EmptyChoice, NotClosed, NotFalling, TooMany
from lowerwords.falling import closed_by, closure_of
from lowerwords.leasts import all_least
from lowerwords.losses import (
    Clash,
    Filled,
    Hidden,
    Hiding,
    Many,
    Most,
    all_fits,
    all_told,
    fill_lost,
    fits_count,
    hidden_fault,
    hidden_rows,
    least_untold,
    most_told,
    told_lost,
)
from lowerwords.rests import rest_rows
from tests.support import (
    NO_NUMBERS,
    NO_SEQUENCES,
    SIZES,
    Case,
    all_sums,
    chance,
    code_of,
    rows_by_sums,
    some_heap_sets,
    subset_sets,
    weight,
    word_by_places,
)
from tests.test_leasts import LEAST, top_of
from tests.test_readings import places_by_bits

RESULTS = {Hidden: "word", Filled: "word", Many: "one other", Clash: "word", Hiding: "lost word", Most: "number lost"}


def marks(places):
    """The word that is 1 at the places."""
    return sum(1 << place for place in set(places))


@functools.lru_cache(maxsize=None)
def rest_words(letters, heaps):
    """The rest code, as a set: all words for few letters, all sums of its rows for more."""
    if letters > 3:
        return all_sums(rest_rows(Choice(letters, heaps)))
    own = [word_by_places(letters, heap) for heap in heaps]
    return {word for word in range(2 ** 2 ** letters) if all(weight(word & one) % 2 == 0 for one in own)}


def small_cases(seed):
    """Choices of few letters, closed or not, with places: all of one and two letters, some of three."""
    for letters in (1, 2):
        for heaps in subset_sets(letters):
            for blank in range(2 ** 2 ** letters):
                yield Choice(letters, heaps), places_by_bits(letters, blank)
    source = chance(seed)
    for heaps in some_heap_sets(3, 25, seed):
        for choice in (Choice(3, heaps), closed_by(Choice(3, heaps)), closure_of(Choice(3, heaps))):
            for blank in (0, 255, *[source.getrandbits(8) for _ in range(4)]):
                yield choice, places_by_bits(3, blank)


def more_cases(seed, most):
    """Choices of four and five letters of at most this size, with few and with many places."""
    source = chance(seed)
    for letters in (4, 5):
        places = range(2 ** letters)
        for heaps in some_heap_sets(letters, 15, seed):
            for choice in (Choice(letters, heaps[:most]), closure_of(Choice(letters, heaps[:1]))):
                if choice.size > most:
                    continue
                for many in (0, 2, 2 ** letters // 2, 2 ** letters - 3, 2 ** letters):
                    yield choice, tuple(sorted(source.sample(places, many)))


def all_cases(seed, most=8):
    """Small choices and greater ones with places."""
    yield from small_cases(seed)
    yield from more_cases(seed + 1, most)


def words_within(words, places):
    """Those of the words that are 0 off the places."""
    return {word for word in words if word & marks(places) == word}


class Results(Case):
    def test_results(self):
        for made, names in RESULTS.items():
            self.assert_result(made, tuple(names.split()), [other for other in RESULTS if other is not made and
                                                            RESULTS[other].count(" ") == names.count(" ")])


class HiddenWords(Case):
    def test_against_all_words(self):
        met = set()
        for choice, lost in all_cases(470):
            within = words_within(code_of(choice.letters, choice.heaps), lost)
            self.assert_same(hidden_rows(choice, lost), rows_by_sums(within))
            told = told_lost(choice, lost)
            met.add((choice.size == 0, len(within) > 1))
            if within == {0}:
                self.assertIsNone(told)
            else:
                self.assert_alike(told, Hidden(min(within - {0})))
                self.assert_same(told.word, hidden_rows(choice, lost)[-1])
        self.assertEqual(met, {(True, False), (False, False), (False, True)})

    def test_told_exactly_if_unlike_words_always_differ_off_the_lost_places(self):
        for choice, lost in small_cases(471):
            off = 2 ** 2 ** choice.letters - 1 - marks(lost)
            code = code_of(choice.letters, choice.heaps)
            self.assertIs(told_lost(choice, lost) is None, len({word & off for word in code}) == len(code))

    def test_no_places_and_all_places(self):
        for letters in SIZES:
            for heaps in [(heap,) for heap in range(2 ** letters)] + some_heap_sets(letters, 5, 472):
                choice = Choice(letters, heaps)
                self.assert_same(hidden_rows(choice, ()), ())
                self.assertIsNone(told_lost(choice, []))
                rows = hidden_rows(choice, tuple(range(2 ** letters)))
                self.assertEqual(len(rows), choice.size)
                if letters < 4:
                    self.assert_same(rows, rows_by_sums(code_of(letters, heaps)))
                self.assertIs(told_lost(choice, list(range(2 ** letters))) is None, not heaps)

    def test_doubles_and_any_order(self):
        for choice, lost in small_cases(473):
            for other in (list(lost)[::-1] + list(lost)[:2], lost + lost):
                self.assert_same(hidden_rows(choice, other), hidden_rows(choice, lost))
                self.assertEqual(told_lost(choice, other), told_lost(choice, lost))

    def test_the_list_is_not_changed(self):
        lost = [3, 1, 1, 0]
        choice = Choice(2, (0, 3))
        hidden_rows(choice, lost)
        told_lost(choice, lost)
        hidden_fault(choice, lost, 5)
        fill_lost(choice, 5, lost)
        fits_count(choice, 5, lost)
        list(all_fits(choice, 5, lost))
        self.assertEqual(lost, [3, 1, 1, 0])

    def test_errors(self):
        for letters in SIZES:
            for heaps in ((), (0,), (1,)):
                choice = Choice(letters, heaps)
                for call in (hidden_rows, told_lost):
                    for bad in NO_SEQUENCES:
                        self.assert_error(BadPlaces, {"index": 0}, call, choice, bad)
                    for bad in NO_NUMBERS + (-1, 2 ** letters):
                        self.assert_error(BadPlaces, {"index": 0}, call, choice, [bad])
                        self.assert_error(BadPlaces, {"index": 2}, call, choice, (1, 1, bad, None))


class Faults(Case):
    def test_against_the_words(self):
        met = set()
        for choice, lost in small_cases(474):
            code = code_of(choice.letters, choice.heaps)
            for word in range(0, 2 ** 2 ** choice.letters, 1 if choice.letters < 3 else 7):
                if word == 0:
                    due = "zero"
                elif word not in code:
                    due = "code"
                else:
                    due = None if word in words_within({word}, lost) else "off"
                self.assert_same(hidden_fault(choice, lost, word), due)
                met.add(due)
        self.assertEqual(met, {None, "zero", "code", "off"})

    def test_what_is_hidden_has_no_fault(self):
        for choice, lost in all_cases(475):
            for row in hidden_rows(choice, lost):
                self.assertIsNone(hidden_fault(choice, lost, row))
            self.assertEqual(hidden_fault(choice, lost, 0), "zero")

    def test_the_first_tag_is_told(self):
        choice = Choice(2, (0, 1))
        self.assert_same([hidden_fault(choice, (0, 2), word) for word in (0, 1, 2, 5, 10)],
                         ["zero", "code", "code", None, "off"])

    def test_errors(self):
        for letters in SIZES:
            choice = Choice(letters, (0,))
            for bad in NO_NUMBERS + (-1, 2 ** letters):
                self.assert_error(BadPlaces, {"index": 1}, hidden_fault, choice, (0, bad), None)
            for bad in NO_SEQUENCES:
                self.assert_error(BadPlaces, {"index": 0}, hidden_fault, choice, bad, -1)
            for bad in NO_NUMBERS + (-1, 2 ** 2 ** letters):
                self.assert_error(BadWord, {"index": 0}, hidden_fault, choice, (0,), bad)


class Fitting(Case):
    def assert_fits(self, choice, word, lost):
        """What is told of a word with lost places, against all words of the code and of the rest code."""
        letters = choice.letters
        off = 2 ** 2 ** letters - 1 - marks(lost)
        fits = sorted(own for own in code_of(letters, choice.heaps) if (own ^ word) & off == 0)
        self.assert_same(fits_count(choice, word, lost), len(fits))
        self.assertEqual(list(all_fits(choice, word, lost)), fits)
        result = fill_lost(choice, word, lost)
        if len(fits) > 1:
            self.assert_alike(result, Many(fits[0], fits[1]))
        elif fits:
            self.assert_alike(result, Filled(fits[0]))
        elif letters < 5 or choice.size > 20:
            against = [own for own in rest_words(letters, choice.heaps) if own & off == own and weight(own & word) % 2]
            self.assert_alike(result, Clash(min(against)))
        else:
            self.assertIs(result.__class__, Clash)
            self.assertEqual(weight(result.word & word) % 2, 1)
            self.assertEqual(result.word & off, result.word)
            for heap in choice.heaps:
                self.assertEqual(weight(result.word & word_by_places(letters, heap)) % 2, 0)
        return result.__class__

    def test_all_words_of_few_letters(self):
        kinds = set()
        for letters in (1, 2):
            for heaps in subset_sets(letters):
                for blank in range(2 ** 2 ** letters):
                    for word in range(2 ** 2 ** letters):
                        kinds.add(self.assert_fits(Choice(letters, heaps), word, places_by_bits(letters, blank)))
        self.assertEqual(kinds, {Filled, Many, Clash})

    def test_more_letters(self):
        source = chance(476)
        kinds = {3: set(), 4: set(), 5: set()}
        for choice, lost in all_cases(477):
            if choice.letters < 3 or (choice.letters == 4 and choice.size < 6):
                continue
            word = source.getrandbits(2 ** choice.letters)
            code = sorted(code_of(choice.letters, choice.heaps))
            own = source.choice(code)
            for wrong in (word, own, own ^ (word & marks(lost)), own ^ (1 << source.randrange(2 ** choice.letters))):
                kinds[choice.letters].add(self.assert_fits(choice, wrong, lost))
        self.assertEqual(list(kinds.values()), [{Filled, Many, Clash}] * 3)

    def test_the_least_clash_of_five_letters(self):
        # Choices of many heaps have few words in their rest codes, so that all of these can be walked.
        source = chance(478)
        for _ in range(12):
            heaps = sorted(source.sample(range(32), source.randrange(24, 31)))
            choice = Choice(5, heaps)
            lost = source.sample(range(32), 3)
            off = 2 ** 32 - 1 - marks(lost)
            for word in (source.getrandbits(32), 1 << source.randrange(32)):
                against = [own for own in all_sums(rest_rows(choice)) if own & off == own and weight(own & word) % 2]
                result = fill_lost(choice, word, lost)
                self.assertEqual(result.__class__ is Clash, bool(against))
                if against:
                    self.assert_alike(result, Clash(min(against)))
                    self.assert_same(fits_count(choice, word, lost), 0)

    def test_what_stands_at_lost_places_means_nothing(self):
        source = chance(479)
        for choice, lost in all_cases(480):
            word = source.getrandbits(2 ** choice.letters)
            other = word ^ (marks(lost) & source.getrandbits(2 ** choice.letters))
            self.assertEqual(fill_lost(choice, word, lost), fill_lost(choice, other, lost))
            self.assertEqual(fits_count(choice, word, lost), fits_count(choice, other, lost))
            self.assertEqual(list(all_fits(choice, word, lost)), list(all_fits(choice, other, lost)))

    def test_the_example(self):
        choice = Choice(3, (0, 1, 2, 3, 4, 5))
        self.assertIsNone(told_lost(choice, (0, 1)))
        self.assert_alike(told_lost(choice, (0, 2)), Hidden(5))
        self.assert_alike(fill_lost(choice, 1, (0, 2)), Many(0, 5))
        self.assert_alike(fill_lost(choice, 2, (0, 2)), Clash(170))
        self.assertIsNone(all_told(choice, 1))
        self.assert_alike(all_told(choice, 3), Hiding((0, 3, 7), 136))
        self.assert_alike(most_told(choice), Most(2, (6, 7)))

    def test_many_fits_of_five_letters(self):
        for size in (12, 13, 20):
            choice = Choice(5, list(range(size)))
            every = list(range(32))
            self.assert_same(fits_count(choice, 0, every), 2 ** size)
            self.assert_alike(fill_lost(choice, 7, every), Many(0, hidden_rows(choice, every)[-1]))
            if size == 12:
                self.assertEqual(list(all_fits(choice, 9, every)), sorted(code_of(5, range(12))))
            else:
                with self.assertRaises(TooMany):
                    list(all_fits(choice, 9, every))

    def test_too_many_behind_the_arguments_and_also_where_none_fits(self):
        def listed(*things):
            return list(all_fits(*things))

        # No word of this code hangs on letter 4, so each has the same value at the places 0 and 16.
        choice = Choice(5, list(range(15)))
        lost = [place for place in range(32) if place not in (0, 16)]
        self.assertEqual(len(hidden_rows(choice, lost)), 14)
        self.assert_same([fits_count(choice, word, lost) for word in (1, 1 << 16, 1 + (1 << 16))], [0, 0, 2 ** 14])
        for word in (0, 1, 1 << 16, 1 + (1 << 16)):
            self.assert_error(TooMany, {"most": 12}, listed, choice, word, lost)
        self.assert_error(BadWord, {"index": 0}, listed, choice, -1, lost)
        self.assert_error(BadPlaces, {"index": 30}, listed, choice, 0, lost + [32])
        self.assertEqual(listed(choice, 1, []), [])

    def test_errors(self):
        def listed(*things):
            return list(all_fits(*things))

        for letters in SIZES:
            for heaps in ((), (0,), (1,)):
                choice = Choice(letters, heaps)
                for call in (fill_lost, fits_count, listed):
                    for bad in NO_NUMBERS + (-1, 2 ** 2 ** letters):
                        self.assert_error(BadWord, {"index": 0}, call, choice, bad, ())
                        self.assert_error(BadWord, {"index": 0}, call, choice, bad, None)
                    for bad in NO_SEQUENCES:
                        self.assert_error(BadPlaces, {"index": 0}, call, choice, 0, bad)
                    for bad in NO_NUMBERS + (-1, 2 ** letters):
                        self.assert_error(BadPlaces, {"index": 1}, call, choice, 0, (0, bad, bad))


class AllSets(Case):
    def test_few_letters_against_all_sets(self):
        for letters in (1, 2, 3):
            for heaps in list(subset_sets(letters))[::1 if letters < 3 else 9]:
                choice = Choice(letters, heaps)
                for number in range(2 ** letters + 1):
                    sets = itertools.combinations(range(2 ** letters), number)
                    self.assertIs(all_told(choice, number) is None,
                                  all(told_lost(choice, lost) is None for lost in sets))

    def test_what_is_shown(self):
        for letters in SIZES:
            for heaps in [(heap,) for heap in range(2 ** letters)] + some_heap_sets(letters, 12, 481):
                choice = Choice(letters, heaps)
                for number in range(2 ** letters + 1):
                    result = all_told(choice, number)
                    if not heaps or number < 2 ** (letters - top_of(heaps)):
                        self.assertIsNone(result)
                        continue
                    heap = min(heap for heap in heaps if weight(heap) == top_of(heaps))
                    word = word_by_places(letters, heap)
                    places = places_by_bits(letters, word)
                    others = [place for place in range(2 ** letters) if place not in places]
                    lost = tuple(sorted(list(places) + others[:number - len(places)]))
                    self.assertEqual(len(lost), number)
                    self.assert_alike(result, Hiding(lost, word))
                    self.assert_same((result.lost, result.word), (lost, word))
                    self.assertIsNone(hidden_fault(choice, lost, word))

    def test_errors(self):
        for letters in SIZES:
            for heaps in ((), (0,), (2 ** letters - 1,)):
                for bad in NO_NUMBERS + (-1, 2 ** letters + 1, 10 ** 30):
                    self.assert_error(BadNumber, {"most": 2 ** letters}, all_told, Choice(letters, heaps), bad)


class Smallest(Case):
    def test_the_places_of_the_least_words_in_their_order(self):
        for letters in SIZES:
            for heaps in LEAST[letters] if letters < 5 else LEAST[5][::9]:
                choice = Choice(letters, heaps)
                due = [places_by_bits(letters, word) for word in all_least(choice)]
                self.assert_same(list(least_untold(choice)), due)

    def test_against_all_sets_of_few_letters(self):
        for letters in (1, 2, 3):
            for heaps in LEAST[letters]:
                choice = Choice(letters, heaps)
                least = 2 ** (letters - top_of(heaps))
                sets = itertools.combinations(range(2 ** letters), least)
                untold = [lost for lost in sets if told_lost(choice, lost) is not None]
                self.assertEqual(sorted(least_untold(choice)), untold)

    def test_errors(self):
        def listed(choice):
            return list(least_untold(choice))

        for letters in SIZES:
            self.assert_error(EmptyChoice, {}, listed, Choice(letters, ()))
            self.assert_error(NotClosed, {"heap": 1, "missing": 0}, listed, Choice(letters, (1,)))
        for letters in SIZES[1:]:
            self.assert_error(NotFalling, {"heap": 2, "missing": 1}, listed, Choice(letters, (0, 2)))
            self.assert_error(NotClosed, {"heap": 3, "missing": 1}, listed, Choice(letters, (0, 2, 3)))


class Greatest(Case):
    def test_what_is_told(self):
        for letters in SIZES:
            for heaps in list(subset_sets(letters)) if letters < 4 else some_heap_sets(letters, 40, 482):
                choice = Choice(letters, heaps)
                lost = tuple(place for place in range(2 ** letters) if place not in heaps)
                result = most_told(choice)
                self.assert_alike(result, Most(2 ** letters - len(heaps), lost))
                self.assert_same((result.number, result.lost), (2 ** letters - len(heaps), lost))
                self.assertIsNone(told_lost(choice, lost))

    def test_one_place_more_is_never_told(self):
        for letters in (1, 2, 3):
            for heaps in list(subset_sets(letters))[::1 if letters < 3 else 7]:
                choice = Choice(letters, heaps)
                number = most_told(choice).number
                for lost in itertools.combinations(range(2 ** letters), number + 1):
                    self.assertIsNotNone(told_lost(choice, lost))
        source = chance(483)
        for letters in (4, 5):
            for heaps in some_heap_sets(letters, 20, 484):
                choice = Choice(letters, heaps)
                number = most_told(choice).number
                if number < 2 ** letters:
                    self.assertIsNotNone(told_lost(choice, source.sample(range(2 ** letters), number + 1)))


if __name__ == "__main__":
    unittest.main()
