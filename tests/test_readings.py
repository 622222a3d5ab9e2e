"""readings.py: [6.1], [6.4] to [6.8], [6.10]."""

import itertools
import math
import unittest

from lowerwords.choices import Choice
from lowerwords.errors import BadNumber, BadWord, EmptyChoice, NoneNear, TooMany
from lowerwords.falling import closure_of
from lowerwords.readings import (
    Far,
    Nearest,
    Outvoted,
    Read,
    Tie,
    TwoNear,
    Voted,
    nearest_words,
    read_count,
    read_steps,
    read_votes,
    reads_sure,
    told_fault,
    two_near,
)
from tests.support import (
    NO_NUMBERS,
    SIZES,
    Case,
    chance,
    code_of,
    letter_set,
    some_heap_sets,
    some_words,
    subset_sets,
    weight,
    word_by_places,
)
from tests.test_leasts import top_of
from tests.test_votes import ballots_by_places, votes_by_places


def step_order(heaps):
    """The heaps in the order of the steps."""
    return [heap for many in range(5, -1, -1) for heap in sorted(heaps) if weight(heap) == many]


def steps_by_places(letters, heaps, word):
    """The steps of reading as tuples, straight from the document."""
    rest, steps = word, []
    for heap in step_order(heaps):
        votes = votes_by_places(letters, rest, heap)
        ones, zeros = votes.count(1), votes.count(0)
        if ones == zeros:
            return steps + [(heap, votes, None, rest)]
        bit = int(ones > zeros)
        rest ^= bit * word_by_places(letters, heap)
        steps.append((heap, votes, bit, rest))
    return steps


def reading_by_places(letters, heaps, word):
    """The heap of a tie alone, or the word built, the wrong places and the votes against each step."""
    built, against = 0, []
    for heap, votes, bit, _ in steps_by_places(letters, heaps, word):
        if bit is None:
            return (heap,)
        built ^= bit * word_by_places(letters, heap)
        against.append(len([vote for vote in votes if vote != bit]))
    return built, places_by_bits(letters, word ^ built), tuple(against)


def places_by_bits(letters, word):
    """The places of a word, ascending."""
    return tuple(place for place in range(2 ** letters) if word >> place & 1)


def sure_by_size(letters, heaps):
    """What reads_sure is due to be."""
    if not heaps:
        return 2 ** letters
    half = 2 ** (letters - top_of(heaps)) / 2
    return max(number for number in range(2 ** letters + 1) if number < half)


def some_choices(seed, many):
    """Choices of all numbers of letters, closed or not, the empty one and one of all heaps among them."""
    for letters in (1, 2):
        for heaps in subset_sets(letters):
            yield Choice(letters, heaps)
    for letters in (3, 4, 5):
        yield Choice(letters, ())
        yield Choice(letters, list(range(2 ** letters)))
        for heaps in some_heap_sets(letters, many, seed):
            yield Choice(letters, heaps)
            yield closure_of(Choice(letters, heaps[:2]))


def words_for(choice, many, seed):
    """Words to read: all of few letters; words of the code with few wrong places and other words of more."""
    if choice.letters <= 2:
        return list(range(2 ** 2 ** choice.letters))
    source = chance(seed)
    found = some_words(choice.letters, many, seed)
    if choice.letters == 3:
        found = found[::5]
    for _ in range(many):
        word = 0
        for heap in choice.heaps:
            word ^= source.randrange(2) * word_by_places(choice.letters, heap)
        for _ in range(source.randrange(sure_by_size(choice.letters, choice.heaps) + 2)):
            word ^= 1 << source.randrange(2 ** choice.letters)
        found.append(word)
    return found


class Results(Case):
    def test_results(self):
        self.assert_result(Voted, ("heap", "votes", "bit", "rest"), (TwoNear,))
        self.assert_result(Read, ("word", "wrong", "against"), (Far,))
        self.assert_result(Far, ("word", "wrong", "against"), (Read,))
        self.assert_result(Tie, ("heap",))
        self.assert_result(Outvoted, ("heap", "spoilt"), (Nearest,))
        self.assert_result(Nearest, ("distance", "words"), (Outvoted,))
        self.assert_result(TwoNear, ("word", "lost", "one", "other"), (Voted,))


class Steps(Case):
    def test_reads_sure(self):
        for choice in some_choices(440, 30):
            self.assert_same(reads_sure(choice), sure_by_size(choice.letters, choice.heaps))
        self.assert_same(reads_sure(Choice(5, ())), 32)
        self.assert_same(reads_sure(Choice(5, (0,))), 15)
        self.assert_same(reads_sure(Choice(5, (31,))), 0)
        self.assert_same(reads_sure(Choice(5, (7, 0))), 1)

    def test_the_steps_to_the_first_tie(self):
        ties = 0
        for choice in some_choices(441, 6):
            for word in words_for(choice, 6, 442):
                due = steps_by_places(choice.letters, choice.heaps, word)
                steps = list(read_steps(choice, word))
                self.assert_same([(step.heap, step.votes, step.bit, step.rest) for step in steps], due)
                for step, told in zip(steps, due):
                    self.assert_alike(step, Voted(*told))
                ties += due != [] and due[-1][2] is None
        self.assertGreater(ties, 20)

    def test_the_order_of_the_steps(self):
        choice = Choice(3, (0, 1, 2, 3, 4, 5))
        self.assert_same([step.heap for step in read_steps(choice, 0)], [3, 5, 1, 2, 4, 0])

    def test_the_empty_choice_has_no_steps(self):
        for letters in SIZES:
            for word in some_words(letters, 5, 443)[:20]:
                self.assert_same(list(read_steps(Choice(letters, ()), word)), [])

    def test_bad_words(self):
        for letters in SIZES:
            for bad in NO_NUMBERS + (-1, 2 ** 2 ** letters):
                for heaps in ((), (0,), (1,)):
                    self.assert_error(BadWord, {"index": 0}, list_steps, Choice(letters, heaps), bad)


def list_steps(choice, word):
    """The generator, asked for its first items."""
    return list(read_steps(choice, word))


class Votes(Case):
    def assert_read(self, choice, word, most=None):
        """The result is the due one."""
        due = reading_by_places(choice.letters, choice.heaps, word)
        result = read_votes(choice, word, most=most)
        if len(due) == 1:
            self.assert_alike(result, Tie(*due))
            self.assert_same(result.heap, due[0])
            return result
        let = sure_by_size(choice.letters, choice.heaps) if most is None else most
        kind = Read if len(due[1]) <= let else Far
        self.assert_alike(result, kind(*due))
        self.assert_same((result.word, result.wrong, result.against), due)
        return result

    def test_each_result(self):
        kinds = set()
        for choice in some_choices(444, 6):
            sure = sure_by_size(choice.letters, choice.heaps)
            for word in words_for(choice, 6, 445):
                for most in {None, 0, sure, sure // 2}:
                    kinds.add(self.assert_read(choice, word, most).__class__)
        self.assertEqual(kinds, {Read, Far, Tie})

    def test_all_wrong_places_fewer_than_half_of_the_least_weight(self):
        source = chance(446)
        for choice in some_choices(447, 8):
            letters = choice.letters
            if not choice.size:
                continue
            sure = sure_by_size(letters, choice.heaps)
            sets = list(itertools.chain.from_iterable(
                itertools.combinations(range(2 ** letters), many) for many in range(min(sure, 2) + 1)
            ))
            sets = sets if len(sets) < 40 else source.sample(sets, 20)
            sets += [tuple(sorted(source.sample(range(2 ** letters), sure))) for _ in range(4)]
            code = code_of(letters, choice.heaps) if choice.size < 8 else {0, word_by_places(letters, choice.heaps[0])}
            for word in source.sample(sorted(code), min(len(code), 3)):
                for wrong in sets:
                    result = read_votes(choice, word ^ sum(1 << place for place in wrong))
                    self.assertIs(result.__class__, Read)
                    self.assert_same((result.word, result.wrong), (word, wrong))

    def test_read_exactly_if_a_word_of_the_code_is_so_near(self):
        for letters in (1, 2, 3):
            for heaps in list(subset_sets(letters))[::1 if letters < 3 else 9]:
                choice = Choice(letters, heaps)
                code = code_of(letters, heaps)
                for most in range(reads_sure(choice) + 1):
                    for word in range(0, 2 ** 2 ** letters, 1 if letters < 3 else 3):
                        near = [own for own in code if weight(own ^ word) <= most]
                        result = read_votes(choice, word, most=most)
                        self.assertIs(result.__class__ is Read, near != [])
                        if near:
                            self.assertEqual(near, [result.word])

    def test_no_other_word_is_ever_read(self):
        for heaps in ((0,), (0, 1), (0, 1, 2, 4), (1, 2), (3, 4), (7,)):
            choice = Choice(3, heaps)
            least = 2 ** (3 - top_of(heaps))
            code = code_of(3, heaps)
            for most in range(reads_sure(choice) + 1):
                for word in range(0, 256, 2):
                    result = read_votes(choice, word, most=most)
                    if result.__class__ is Read:
                        for own in code:
                            if weight(own ^ word) <= least - most - 1:
                                self.assertEqual(own, result.word)

    def test_a_word_of_the_code_added(self):
        source = chance(448)
        for choice in some_choices(449, 5):
            for word in words_for(choice, 3, 450)[:40]:
                added = 0
                for heap in choice.heaps:
                    added ^= source.randrange(2) * word_by_places(choice.letters, heap)
                one, other = read_votes(choice, word), read_votes(choice, word ^ added)
                self.assertIs(one.__class__, other.__class__)
                if one.__class__ is Tie:
                    self.assert_alike(one, other)
                else:
                    self.assert_alike(other, one.__class__(one.word ^ added, one.wrong, one.against))

    def test_the_examples_of_the_document(self):
        choice = Choice(3, (0, 1, 2, 4))
        self.assert_same(reads_sure(choice), 1)
        self.assert_alike(read_votes(choice, 32), Read(0, (5,), (1, 1, 1, 1)))
        self.assert_alike(read_votes(choice, 32, most=0), Far(0, (5,), (1, 1, 1, 1)))
        self.assert_alike(read_votes(choice, 33), Tie(1))
        votes = [(step.heap, step.votes) for step in read_steps(choice, 32)]
        self.assert_same(votes, [
            (1, (0, 0, 1, 0)),
            (2, (0, 0, 0, 1)),
            (4, (0, 1, 0, 0)),
            (0, (0, 0, 0, 0, 0, 1, 0, 0)),
        ])

    def test_the_empty_choice(self):
        for letters in SIZES:
            choice = Choice(letters, ())
            for word in some_words(letters, 8, 451)[:40]:
                places = places_by_bits(letters, word)
                self.assert_alike(read_votes(choice, word), Read(0, places, ()))
                for most in (0, 1, 2 ** letters):
                    kind = Read if len(places) <= most else Far
                    self.assert_alike(read_votes(choice, word, most=most), kind(0, places, ()))

    def test_errors(self):
        for choice in some_choices(452, 3):
            full = 2 ** 2 ** choice.letters - 1
            sure = sure_by_size(choice.letters, choice.heaps)
            for bad in NO_NUMBERS + (-1, full + 1):
                self.assert_error(BadWord, {"index": 0}, read_votes, choice, bad)
                self.assert_error(BadWord, {"index": 0}, read_votes, choice, bad, most=-1)
            for bad in NO_NUMBERS + (-1, sure + 1, 10 ** 30):
                if bad is not None:
                    self.assert_error(BadNumber, {"most": sure}, read_votes, choice, 0, most=bad)
                    self.assert_error(BadNumber, {"most": sure}, read_count, choice, most=bad)

    def test_most_is_passed_by_keyword(self):
        with self.assertRaises(TypeError):
            read_votes(Choice(1, ()), 0, 0)
        with self.assertRaises(TypeError):
            read_count(Choice(1, ()), 0)


class Faults(Case):
    def fault_by_places(self, letters, heaps, word, claimed):
        """The due fault: None, "code", or the heap and how many of its votes are spoilt."""
        if claimed not in code_of(letters, heaps):
            return "code"
        wrong = set(places_by_bits(letters, word ^ claimed))
        for heap in step_order(heaps):
            ballots = ballots_by_places(letters, heap)
            spoilt = sum(len(wrong & set(ballot)) % 2 for ballot in ballots)
            if 2 * spoilt >= len(ballots):
                return heap, spoilt
        return None

    def assert_fault(self, choice, word, claimed):
        """The fault is the due one, and there is none exactly if the votes tell the word."""
        due = self.fault_by_places(choice.letters, choice.heaps, word, claimed)
        fault = told_fault(choice, word, claimed)
        if due.__class__ is tuple:
            self.assert_alike(fault, Outvoted(*due))
            self.assert_same((fault.heap, fault.spoilt), due)
        else:
            self.assert_same(fault, due)
        result = read_votes(choice, word)
        told = result.__class__ is not Tie and result.word == claimed
        self.assertIs(fault is None, told)
        return fault.__class__

    def test_few_letters(self):
        kinds = set()
        for letters in (1, 2):
            for heaps in subset_sets(letters):
                for word in range(2 ** 2 ** letters):
                    for claimed in range(2 ** 2 ** letters):
                        kinds.add(self.assert_fault(Choice(letters, heaps), word, claimed))
        self.assertEqual(kinds, {None.__class__, str, Outvoted})

    def test_more_letters(self):
        for choice in some_choices(453, 4):
            if choice.letters < 3 or choice.size > 7:
                continue
            code = sorted(code_of(choice.letters, choice.heaps))
            for word in words_for(choice, 2, 454)[-4:]:
                for claimed in code[:5] + code[-2:] + [word, word ^ 1]:
                    self.assert_fault(choice, word, claimed)

    def test_a_tie_exactly_if_every_word_of_the_code_has_a_fault(self):
        for heaps in list(subset_sets(3))[::13]:
            choice = Choice(3, heaps)
            if choice.size > 6:
                continue
            code = code_of(3, heaps)
            for word in range(0, 256, 17):
                faults = [told_fault(choice, word, own) for own in code]
                self.assertIs(read_votes(choice, word).__class__ is Tie, None not in faults)
                self.assertLessEqual(faults.count(None), 1)

    def test_what_is_spoilt_is_told_as_against(self):
        choice = Choice(3, (0, 1, 2, 4))
        self.assertIsNone(told_fault(choice, 32, 0))
        self.assert_same(told_fault(choice, 32, 32), "code")
        self.assert_alike(told_fault(choice, 33, 0), Outvoted(1, 2))
        self.assert_alike(told_fault(choice, 32, 255), Outvoted(0, 7))

    def test_errors(self):
        for letters in SIZES:
            for heaps in ((), (0,), (1,)):
                choice = Choice(letters, heaps)
                for bad in NO_NUMBERS + (-1, 2 ** 2 ** letters):
                    self.assert_error(BadWord, {"index": 0}, told_fault, choice, bad, 0)
                    self.assert_error(BadWord, {"index": 0}, told_fault, choice, bad, None)
                    self.assert_error(BadWord, {"index": 0}, told_fault, choice, 0, bad)


class Counts(Case):
    def test_few_letters_by_reading_all_words(self):
        for letters in (1, 2, 3):
            for heaps in list(subset_sets(letters))[::1 if letters < 3 else 25]:
                choice = Choice(letters, heaps)
                for most in [None, *range(reads_sure(choice) + 1)]:
                    every = range(2 ** 2 ** letters)
                    due = sum(read_votes(choice, word, most=most).__class__ is Read for word in every)
                    self.assert_same(read_count(choice, most=most), due)

    def test_the_formula(self):
        for choice in some_choices(455, 8):
            for most in range(reads_sure(choice) + 1):
                due = 2 ** choice.size * sum(math.comb(2 ** choice.letters, many) for many in range(most + 1))
                self.assert_same(read_count(choice, most=most), due)
            self.assert_same(read_count(choice), read_count(choice, most=reads_sure(choice)))
        for letters in SIZES:
            self.assert_same(read_count(Choice(letters, ())), 2 ** 2 ** letters)
            self.assert_same(read_count(Choice(letters, ()), most=0), 1)


class NearestWords(Case):
    def test_against_the_code(self):
        for choice in some_choices(456, 6):
            if choice.size > 9:
                continue
            code = code_of(choice.letters, choice.heaps)
            for word in words_for(choice, 4, 457)[-40:]:
                distance = min(weight(own ^ word) for own in code)
                words = tuple(sorted(own for own in code if weight(own ^ word) == distance))
                result = nearest_words(choice, word)
                self.assert_alike(result, Nearest(distance, words))
                self.assert_same((result.distance, result.words), (distance, words))

    def test_plain_cases(self):
        self.assert_alike(nearest_words(Choice(2, ()), 6), Nearest(2, (0,)))
        self.assert_alike(nearest_words(Choice(2, (0,)), 6), Nearest(2, (0, 15)))
        self.assert_alike(nearest_words(Choice(3, (0, 1, 2, 4)), 32), Nearest(1, (0,)))
        self.assertEqual(nearest_words(Choice(5, list(range(12))), 0), Nearest(0, (0,)))

    def test_errors(self):
        for letters in (4, 5):
            for size in (13, 16, 2 ** letters):
                for word in (0, None, -1):
                    self.assert_error(TooMany, {"most": 12}, nearest_words, Choice(letters, list(range(size))), word)
        for letters in SIZES:
            for bad in NO_NUMBERS + (-1, 2 ** 2 ** letters):
                for heaps in ((), (0,), (1,)):
                    self.assert_error(BadWord, {"index": 0}, nearest_words, Choice(letters, heaps), bad)


class Two(Case):
    def test_the_due_words(self):
        for choice in some_choices(458, 12):
            if not choice.size:
                continue
            letters = choice.letters
            top = top_of(choice.heaps)
            least = 2 ** (letters - top)
            heap = min(heap for heap in choice.heaps if weight(heap) == top)
            places = [place for place in range(2 ** letters) if letter_set(heap) <= letter_set(place)]
            for many in range(least + 1):
                if (least - many) % 2:
                    self.assert_error(NoneNear, {}, two_near, choice, many)
                    continue
                near = places[many:][:(least - many) // 2]
                due = (sum(1 << place for place in near), tuple(places[:many]), 0, sum(1 << place for place in places))
                result = two_near(choice, many)
                self.assert_alike(result, TwoNear(*due))
                self.assert_same((result.word, result.lost, result.one, result.other), due)
            if least % 2 == 0:
                self.assert_alike(two_near(choice), two_near(choice, 0))
                self.assert_alike(two_near(choice, many=least), two_near(choice, least))
            else:
                self.assert_error(NoneNear, {}, two_near, choice)

    def test_no_word_of_the_code_is_nearer(self):
        for choice in some_choices(459, 8):
            if not 0 < choice.size <= 8:
                continue
            least = 2 ** (choice.letters - top_of(choice.heaps))
            code = code_of(choice.letters, choice.heaps)
            for many in range(least % 2, least + 1, 2):
                found = two_near(choice, many)
                kept = 2 ** 2 ** choice.letters - 1 - sum(1 << place for place in found.lost)
                self.assertIn(found.other, code)
                nearest = min(weight((own ^ found.word) & kept) for own in code)
                self.assertEqual(weight((found.one ^ found.word) & kept), nearest)
                self.assertEqual(weight((found.other ^ found.word) & kept), nearest)

    def test_errors(self):
        for letters in SIZES:
            for many in (0, -1, None, 1):
                self.assert_error(EmptyChoice, {}, two_near, Choice(letters, ()), many)
            for heaps in ((0,), (1,), (2 ** letters - 1,), (0, 1)):
                choice = Choice(letters, heaps)
                least = 2 ** (letters - top_of(heaps))
                for bad in NO_NUMBERS + (-1, least + 1, 10 ** 30):
                    self.assert_error(BadNumber, {"most": least}, two_near, choice, bad)
        self.assert_error(NoneNear, {}, two_near, Choice(2, (3,)))
        self.assert_alike(two_near(Choice(2, (3,)), 1), TwoNear(0, (3,), 0, 8))


if __name__ == "__main__":
    unittest.main()
