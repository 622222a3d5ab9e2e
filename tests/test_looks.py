"""looks.py: [9.1], [9.7], [9.8], [9.11], [9.12]."""

import unittest

from lowerwords.choices import Choice
from lowerwords.errors import BadWord, NotClosed, NotFalling
from lowerwords.falling import is_falling
from lowerwords.leasts import all_least
from lowerwords.looks import Fails, failed_look, looks_gap, looks_of, passing_choice
from tests.support import (
    NO_NUMBERS,
    SIZES,
    Case,
    all_below_by_descents,
    chance,
    falling_sets,
    some_words,
    weight,
    word_by_places,
)
from tests.test_leasts import top_of

FALLING = {letters: falling_sets(letters) for letters in SIZES}


def falling_choices(step=7):
    """All falling choices of up to four letters, some of five."""
    for letters in SIZES:
        for heaps in FALLING[letters] if letters < 5 else FALLING[5][::step] + FALLING[5][-2:]:
            yield Choice(letters, heaps)


def rest_heaps(letters, heaps):
    """The heaps whose complement is not among the heaps."""
    return tuple(heap for heap in range(2 ** letters) if 2 ** letters - 1 - heap not in heaps)


def passing_heaps(letters, heaps):
    """The heaps of the passing choice, straight from the document."""
    rest = rest_heaps(letters, heaps)
    below = set()
    for heap in rest:
        if weight(heap) == top_of(rest):
            below |= all_below_by_descents(heap)
    return tuple(heap for heap in range(2 ** letters) if 2 ** letters - 1 - heap not in below)


def rest_least_words(letters, heaps):
    """The least words of the rest code of few letters, as a set, word by word."""
    own = [word_by_places(letters, heap) for heap in heaps]
    every = range(1, 2 ** 2 ** letters)
    rest = [word for word in every if all(weight(word & one) % 2 == 0 for one in own)]
    least = min([weight(word) for word in rest], default=0)
    return {word for word in rest if weight(word) == least}


class Results(Case):
    def test_result(self):
        self.assert_result(Fails, ("look",))


class Looks(Case):
    def test_the_least_words_of_the_rest_in_their_order(self):
        for choice in falling_choices():
            rest = rest_heaps(choice.letters, choice.heaps)
            looks = looks_of(choice)
            self.assert_same(looks, tuple(all_least(Choice(choice.letters, rest))) if rest else ())
            if choice.letters < 4:
                self.assertEqual(set(looks), rest_least_words(choice.letters, choice.heaps))
                self.assertEqual(len(looks), len(set(looks)))

    def test_each_place_lies_in_equally_many(self):
        for choice in falling_choices():
            looks = looks_of(choice)
            many = {sum(look >> place & 1 for look in looks) for place in range(2 ** choice.letters)}
            self.assertEqual(len(many), 1)

    def test_plain_cases(self):
        for letters in SIZES:
            self.assert_same(looks_of(Choice(letters, list(range(2 ** letters)))), ())
            # Every word meets the only word of the empty code evenly; the least ones have one place.
            single = looks_of(Choice(letters, ()))
            self.assertEqual(sorted(single), [1 << place for place in range(2 ** letters)])
        self.assert_same(looks_of(Choice(2, (0, 1))), (10, 5))


class Failing(Case):
    def test_the_first_look_that_is_not_passed(self):
        met = set()
        for choice in falling_choices(29):
            looks = looks_of(choice)
            for word in some_words(choice.letters, 12, 510):
                failed = [look for look in looks if weight(look & word) % 2]
                result = failed_look(choice, word)
                if failed:
                    self.assert_alike(result, Fails(failed[0]))
                    self.assertIs(result.look.__class__, int)
                else:
                    self.assertIsNone(result)
                met.add((bool(looks), bool(failed)))
        self.assertEqual(met, {(False, False), (True, False), (True, True)})

    def test_the_example(self):
        self.assert_alike(failed_look(Choice(2, (0, 1)), 2), Fails(10))
        self.assert_alike(failed_look(Choice(2, (0, 1)), 4), Fails(5))
        self.assertIsNone(failed_look(Choice(2, (0, 1)), 10))


class Passing(Case):
    def test_straight_from_the_document(self):
        for letters in SIZES:
            for heaps in FALLING[letters]:
                choice = Choice(letters, heaps)
                due = passing_heaps(letters, heaps)
                passing = passing_choice(choice)
                self.assert_alike(passing, Choice(letters, due))
                further = [heap for heap in due if heap not in heaps]
                self.assert_same(looks_gap(choice), further[0] if further else None)

    def test_passing_all_looks_is_being_in_its_code(self):
        met = set()
        for choice in falling_choices(29):
            letters = choice.letters
            passing = passing_heaps(letters, choice.heaps)
            rest = rest_heaps(letters, passing)
            source = chance(511)
            words = some_words(letters, 6, 512)
            for _ in range(10 if letters > 3 else 0):
                word = 0
                for heap in passing:
                    word ^= source.randrange(2) * word_by_places(letters, heap)
                words.append(word)
            for word in words:
                # The rest code of the rest code is the code.
                inside = all(weight(word & word_by_places(letters, heap)) % 2 == 0 for heap in rest)
                self.assertIs(failed_look(choice, word) is None, inside)
                met.add(inside)
        self.assertEqual(len(met), 2)

    def test_falling_with_all_heaps_and_its_own_passing_choice(self):
        gaps = 0
        for letters in SIZES:
            for heaps in FALLING[letters]:
                choice = Choice(letters, heaps)
                passing = passing_choice(choice)
                self.assertTrue(is_falling(passing))
                self.assertLessEqual(set(heaps), set(passing.heaps))
                self.assertEqual(passing_choice(passing), passing)
                self.assertIsNone(looks_gap(passing))
                gap = looks_gap(choice)
                self.assertIs(gap is None, passing == choice)
                if gap is not None:
                    gaps += 1
                    if letters < 5:
                        self.assertIsNone(failed_look(choice, word_by_places(letters, gap)))
        self.assertGreater(gaps, 20)

    def test_an_empty_rest_lets_all_by(self):
        for letters in SIZES:
            whole = Choice(letters, list(range(2 ** letters)))
            self.assertEqual(passing_choice(whole), whole)
            self.assertIsNone(looks_gap(whole))
            self.assertIsNone(failed_look(whole, 2 ** 2 ** letters - 1))

    def test_the_example(self):
        choice = Choice(2, (0, 1))
        self.assertEqual(passing_choice(choice), choice)
        self.assertIsNone(looks_gap(choice))


class Errors(Case):
    def test_not_closed_and_not_falling(self):
        for call, further in ((looks_of, ()), (passing_choice, ()), (looks_gap, ()), (failed_look, (-1,))):
            for letters in SIZES:
                error = {"heap": 1, "missing": 0}
                self.assert_error(NotClosed, error, call, Choice(letters, (1,)), *further)
            for letters in SIZES[1:]:
                error = {"heap": 3, "missing": 1}
                self.assert_error(NotClosed, error, call, Choice(letters, (0, 2, 3)), *further)
                error = {"heap": 2, "missing": 1}
                self.assert_error(NotFalling, error, call, Choice(letters, (0, 2)), *further)

    def test_wrong_words(self):
        for letters in SIZES:
            for heaps in ((), (0,), tuple(range(2 ** letters))):
                for bad in NO_NUMBERS + (-1, 2 ** 2 ** letters):
                    self.assert_error(BadWord, {"index": 0}, failed_look, Choice(letters, heaps), bad)


if __name__ == "__main__":
    unittest.main()
