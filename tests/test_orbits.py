"""orbits.py: [5.11] to [5.13], [5.14]."""

import unittest

from lowerwords.blocks import blocks_of
from lowerwords.choices import Choice
from lowerwords.errors import BadLetters, BadWord, EmptyChoice, NotClosed, NotFalling, NotLeast, TooMany
from lowerwords.groups import all_members, in_group
from lowerwords.leasts import all_least, least_count, least_forms, least_number
from lowerwords.orbits import (
    LeastOrbit,
    least_of_orbit,
    least_orbits,
    member_between,
    moves_between,
    orbit_of,
    stays_count,
)
from lowerwords.substitutions import Substitution, all_steps, all_triangular, one_step
from tests.support import (
    BAD_SIZES,
    NO_NUMBERS,
    SIZES,
    Case,
    all_below_by_descents,
    all_sums,
    chance,
    code_of,
    letter_set,
    some_words,
    subset_sets,
    weight,
    word_by_places,
)
from tests.test_leasts import LEAST, many_free_bits, some_falling, top_of


def orbit_by_steps(letters, word):
    """The orbit of a word, by steps done again and again."""
    steps = [one_step(letters, letter, lower) for letter, lower in all_steps(letters)]
    found = {word}
    new = [word]
    while new:
        old = new.pop()
        for step in steps:
            made = step.moved(old)
            if made not in found:
                found.add(made)
                new.append(made)
    return tuple(sorted(found))


def all_orbits(letters):
    """For each word its orbit."""
    found = {}
    for word in range(2 ** 2 ** letters):
        if word not in found:
            orbit = orbit_by_steps(letters, word)
            found.update({other: orbit for other in orbit})
    return found


ORBITS = {letters: all_orbits(letters) for letters in (1, 2, 3)}
FOUR = [1, 2 ** 15, 0b1001, 0x8000, 0x8080, 0xE888, 0x1234, 0xFFFF, 0]


class Orbits(Case):
    def test_all_words_of_few_letters(self):
        for letters in (1, 2, 3):
            many = 2 ** (letters * (letters + 1) // 2)
            for word in range(2 ** 2 ** letters):
                orbit = ORBITS[letters][word]
                self.assert_same(orbit_of(letters, word), orbit)
                self.assert_same(least_of_orbit(letters, word), orbit[0])
                self.assert_same(stays_count(letters, word), many // len(orbit))
                self.assertEqual(many % len(orbit), 0)

    def test_four_letters(self):
        for word in FOUR:
            orbit = orbit_by_steps(4, word)
            self.assert_same(orbit_of(4, word), orbit)
            self.assert_same(least_of_orbit(4, word), orbit[0])
            self.assert_same(stays_count(4, word), 1024 // len(orbit))

    def test_all_triangular_substitutions(self):
        for letters in (1, 2, 3):
            substitutions = list(all_triangular(letters))
            for word in range(0, 2 ** 2 ** letters, 1 if letters < 3 else 3):
                moved = [substitution.moved(word) for substitution in substitutions]
                self.assertEqual(set(moved), set(orbit_of(letters, word)))
                self.assertEqual(moved.count(word), stays_count(letters, word))
        word = 0x8421
        moved = [substitution.moved(word) for substitution in all_triangular(4)]
        self.assertEqual(set(moved), set(orbit_of(4, word)))
        self.assertEqual(moved.count(word), stays_count(4, word))

    def test_a_falling_code_has_whole_orbits(self):
        for letters in (1, 2, 3):
            for heaps in subset_sets(letters):
                code = code_of(letters, heaps)
                whole = all(set(ORBITS[letters][word]) <= code for word in code)
                self.assertIs(whole, all(all_below_by_descents(heap) <= set(heaps) for heap in heaps))

    def test_the_sums_of_the_orbit_of_a_heap(self):
        for letters in (1, 2, 3):
            for heap in range(2 ** letters):
                orbit = orbit_of(letters, word_by_places(letters, heap))
                self.assertEqual(all_sums(orbit), code_of(letters, all_below_by_descents(heap)))

    def test_plain_cases(self):
        self.assert_same(orbit_of(2, 0), (0,))
        self.assert_same(stays_count(2, 0), 8)
        self.assert_same(orbit_of(1, 1), (1, 2))
        self.assert_same(orbit_of(2, 0b1010), (0b0101, 0b1010))
        self.assert_same(orbit_of(2, 0b1100), (0b0011, 0b0110, 0b1001, 0b1100))


class Moves(Case):
    def assert_moves(self, letters, word, other, due):
        """There is a triangular substitution exactly if it is due, and it does what it should."""
        found = moves_between(letters, word, other)
        if not due:
            self.assertIsNone(found)
            return
        self.assertIs(found.__class__, Substitution)
        self.assertEqual(found.letters, letters)
        self.assertIs(found.is_triangular, True)
        self.assertEqual(found.moved(word), other)

    def test_few_letters(self):
        source = chance(420)
        for letters in (1, 2, 3):
            for word in range(2 ** 2 ** letters):
                orbit = ORBITS[letters][word]
                others = range(2 ** 2 ** letters)
                if letters == 3:
                    others = [word, orbit[0], source.choice(orbit), source.choice(orbit), source.randrange(256)]
                for other in others:
                    self.assert_moves(letters, word, other, other in orbit)

    def test_four_letters(self):
        source = chance(421)
        for word in FOUR:
            orbit = orbit_of(4, word)
            for other in (word, orbit[0], orbit[-1], source.choice(orbit)):
                self.assert_moves(4, word, other, True)
                self.assert_moves(4, other, word, True)
            for other in some_words(4, 4, 422):
                self.assert_moves(4, word, other, other in orbit)


class OrbitErrors(Case):
    calls = ((orbit_of, ()), (least_of_orbit, ()), (stays_count, ()), (moves_between, (0,)))

    def test_bad_letters(self):
        for call, further in self.calls:
            for letters in BAD_SIZES:
                for word in (0, -1, None):
                    self.assert_error(BadLetters, {}, call, letters, word, *further)
        self.assert_error(BadLetters, {}, moves_between, 0, 0, None)

    def test_five_letters(self):
        for call, further in self.calls:
            for word in (0, -1, None, 2 ** 32):
                self.assert_error(TooMany, {"most": 4}, call, 5, word, *further)
        self.assert_error(TooMany, {"most": 4}, moves_between, 5, 0, None)

    def test_bad_words(self):
        for letters in (1, 2, 3, 4):
            for bad in NO_NUMBERS + (-1, 2 ** 2 ** letters):
                for call, further in self.calls:
                    self.assert_error(BadWord, {"index": 0}, call, letters, bad, *further)
                self.assert_error(BadWord, {"index": 0}, moves_between, letters, 1, bad)
                self.assert_error(BadWord, {"index": 0}, moves_between, letters, bad, bad)


def profile(heap, blocks):
    """How many letters a heap has in each block."""
    return tuple(len(letter_set(heap) & set(block)) for block in blocks)


def families_of(choice):
    """The families of leading heaps, with how many least words they have."""
    top = top_of(choice.heaps)
    blocks = blocks_of(choice)
    heaps = [heap for heap in choice.heaps if weight(heap) == top]
    profiles = {profile(heap, blocks) for heap in heaps}
    found = sorted(tuple(heap for heap in heaps if profile(heap, blocks) == one) for one in profiles)
    return [(family, sum(2 ** many_free_bits(heap) for heap in family)) for family in found]


def leading_of(choice, word):
    """The leading heap of a least word."""
    forms = least_forms(choice, least_number(choice, word))
    return sum(1 << (lot.bit_length() - 1) for lot, _ in forms)


class LeastOrbits(Case):
    def test_result(self):
        self.assert_result(LeastOrbit, ("heaps", "many"))

    def test_all_falling_choices(self):
        for letters in SIZES:
            for heaps in LEAST[letters]:
                choice = Choice(letters, heaps)
                found = least_orbits(choice)
                due = families_of(choice)
                self.assertIs(found.__class__, tuple)
                self.assert_same([(orbit.heaps, orbit.many) for orbit in found], due)
                for orbit in found:
                    self.assert_alike(orbit, LeastOrbit(orbit.heaps, orbit.many))
                self.assertEqual(sum(orbit.many for orbit in found), least_count(choice))
                top = top_of(heaps)
                whole = sorted(heap for orbit in found for heap in orbit.heaps)
                self.assertEqual(whole, [heap for heap in heaps if weight(heap) == top])

    def test_several_families(self):
        several = [heaps for heaps in LEAST[5] if len(least_orbits(Choice(5, heaps))) > 1]
        self.assertGreater(len(several), 0)

    def test_what_members_make_of_least_words(self):
        for letters in (1, 2, 3):
            for heaps in LEAST[letters]:
                choice = Choice(letters, heaps)
                members = list(all_members(choice))
                for orbit in least_orbits(choice):
                    due = {word for word in all_least(choice) if leading_of(choice, word) in orbit.heaps}
                    self.assertEqual(len(due), orbit.many)
                    word = min(due)
                    self.assertEqual({member.moved(word) for member in members}, due)

    def test_one_leading_heap_is_one_orbit(self):
        for letters in (1, 2, 3, 4):
            for heaps in LEAST[letters][::2]:
                choice = Choice(letters, heaps)
                top = top_of(heaps)
                for heap in heaps:
                    if weight(heap) == top:
                        due = {word for word in all_least(choice) if leading_of(choice, word) == heap}
                        self.assertEqual(set(orbit_of(letters, word_by_places(letters, heap))), due)

    def test_the_example_of_the_document(self):
        found = least_orbits(Choice(3, (0, 1, 2, 3, 4, 5)))
        self.assertEqual(len(found), 1)
        self.assert_alike(found[0], LeastOrbit((3, 5), 12))


class MemberBetween(Case):
    def assert_member(self, choice, word, other):
        """There is a member exactly if the leading heaps have as many letters in each block."""
        blocks = blocks_of(choice)
        due = profile(leading_of(choice, word), blocks) == profile(leading_of(choice, other), blocks)
        found = member_between(choice, word, other)
        if not due:
            self.assertIsNone(found)
            return
        self.assertIs(found.__class__, Substitution)
        self.assertIs(in_group(choice, found), True)
        self.assertEqual(found.moved(word), other)

    def test_all_pairs_of_few_letters(self):
        for letters in (1, 2, 3):
            for heaps in LEAST[letters]:
                choice = Choice(letters, heaps)
                words = list(all_least(choice))
                for word in words:
                    for other in words:
                        self.assert_member(choice, word, other)

    def test_more_letters(self):
        source = chance(423)
        for letters in (4, 5):
            several = [heaps for heaps in LEAST[letters] if len(least_orbits(Choice(letters, heaps))) > 1]
            for heaps in LEAST[letters][::7] + several[:6]:
                choice = Choice(letters, heaps)
                words = list(all_least(choice))
                self.assert_member(choice, words[0], words[-1])
                for _ in range(6):
                    self.assert_member(choice, source.choice(words), source.choice(words))

    def test_errors(self):
        for word, other in ((0, 0), (None, None), (-1, 3)):
            for letters in SIZES:
                told = {"heap": 1, "missing": 0}
                self.assert_error(EmptyChoice, {}, member_between, Choice(letters, ()), word, other)
                self.assert_error(NotClosed, told, member_between, Choice(letters, (1,)), word, other)
            told = {"heap": 4, "missing": 1}
            self.assert_error(NotFalling, told, member_between, Choice(3, (0, 4)), word, other)
        for choice in some_falling(6):
            full = 2 ** 2 ** choice.letters - 1
            good = next(all_least(choice))
            for bad in NO_NUMBERS + (-1, full + 1):
                for further in (good, 0, None):
                    self.assert_error(BadWord, {"index": 0}, member_between, choice, bad, further)
                self.assert_error(BadWord, {"index": 0}, member_between, choice, good, bad)
                self.assert_error(NotLeast, {}, member_between, choice, 0, bad)
            self.assert_error(NotLeast, {}, member_between, choice, 0, good)
            self.assert_error(NotLeast, {}, member_between, choice, good, 0)

    def test_errors_of_least_orbits(self):
        for letters in SIZES:
            self.assert_error(EmptyChoice, {}, least_orbits, Choice(letters, ()))
            self.assert_error(NotClosed, {"heap": 1, "missing": 0}, least_orbits, Choice(letters, (1,)))
        self.assert_error(NotFalling, {"heap": 4, "missing": 1}, least_orbits, Choice(3, (0, 4)))
        self.assert_error(NotClosed, {"heap": 12, "missing": 8}, least_orbits, Choice(4, (0, 2, 4, 12)))


if __name__ == "__main__":
    unittest.main()
