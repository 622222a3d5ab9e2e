"""choices.py: [0.2], [0.5], [0.7], [1.6], [1.7], [1.8]."""

import itertools
import unittest

from lowerwords.choices import (
    Choice,
    all_words,
    check_same,
    check_some,
    holds,
    number_of,
    renamed_choice,
    word_at,
)
from lowerwords.errors import (
    BadChoice,
    BadHeap,
    BadLetters,
    BadNumber,
    BadOrder,
    BadWord,
    EmptyChoice,
    NotInCode,
    OtherLetters,
    TooMany,
)
from lowerwords.words import heaps_of, renamed_word
from tests.support import (
    BAD_SIZES,
    NO_NUMBERS,
    NO_SEQUENCES,
    SIZES,
    Case,
    chance,
    code_of,
    heap_number,
    letter_set,
    some_heap_sets,
    some_words,
    sum_by_heaps,
)


def some_choices(many=12):
    """Choices of all numbers of letters, empty and full ones among them."""
    return [Choice(letters, heaps) for letters in SIZES for heaps in some_heap_sets(letters, many, 11)]


class MakingChoices(Case):
    def test_letters_and_heaps(self):
        for letters in SIZES:
            for heaps in some_heap_sets(letters, 60, 10):
                for passed in (heaps, list(heaps), list(heaps)[::-1] + list(heaps)):
                    choice = Choice(letters, passed)
                    self.assert_same(choice.letters, letters)
                    self.assert_same(choice.heaps, heaps)

    def test_bad_letters_come_first(self):
        for thing in BAD_SIZES:
            for heaps in ((), None, (-1,)):
                self.assert_error(BadChoice, {"index": 0, "what": "letters"}, Choice, thing, heaps)

    def test_bad_heaps(self):
        for letters in SIZES:
            for thing in NO_SEQUENCES + (Choice(1, [0]),):
                self.assert_error(BadChoice, {"index": 0, "what": "heap"}, Choice, letters, thing)
            for thing in NO_NUMBERS + (-1, 2 ** letters, 10 ** 30):
                for index in (0, 1, 3):
                    told = {"index": index, "what": "heap"}
                    self.assert_error(BadChoice, told, Choice, letters, [0] * index + [thing, 1, thing])

    def test_size_and_top_size(self):
        for choice in some_choices():
            self.assert_same(choice.size, len(choice.heaps))
            due = max([len(letter_set(heap)) for heap in choice.heaps], default=-1)
            self.assert_same(choice.top_size, due)
        self.assert_same(Choice(5, ()).top_size, -1)
        self.assert_same(Choice(5, (0,)).top_size, 0)
        self.assert_same(Choice(5, (31,)).top_size, 5)

    def test_in_is_true_for_chosen_heaps_alone(self):
        for choice in some_choices(4):
            for heap in range(-1, 40):
                self.assertIs(heap in choice, heap in list(choice.heaps))
                self.assertIs(heap not in choice, heap not in list(choice.heaps))
            for thing in NO_NUMBERS + (choice, choice.heaps, 10 ** 30):
                self.assertIs(thing in choice, False)
        full = Choice(2, (0, 1, 2, 3))
        for thing in (True, False, 1.0, 0.0, "1", None, 4, -1):
            self.assertIs(thing in full, False)

    def test_iteration_gives_the_chosen_heaps_ascending(self):
        for choice in some_choices():
            self.assert_same(tuple(choice), choice.heaps)
            self.assert_same([heap for heap in choice], list(choice.heaps))
        self.assert_same(list(Choice(3, [6, 1, 6, 0])), [0, 1, 6])

    def test_alike_and_unlike(self):
        choices = some_choices(3)
        for choice in choices:
            self.assert_alike(choice, Choice(choice.letters, list(choice.heaps)))
            for thing in (choice.heaps, choice.letters, None, (choice.letters, choice.heaps), "choice"):
                self.assert_unlike(choice, thing)
        self.assert_unlike(Choice(2, (0, 1)), Choice(3, (0, 1)))
        self.assert_unlike(Choice(2, (0, 1)), Choice(2, (0, 2)))
        self.assert_unlike(Choice(2, (0, 1)), Choice(2, (0,)))
        self.assert_unlike(Choice(2, ()), Choice(1, ()))

    def test_a_list_that_is_changed_later_changes_nothing(self):
        heaps = [3, 0]
        choice = Choice(2, heaps)
        heaps.append(1)
        heaps[0] = 2
        self.assert_same(choice.heaps, (0, 3))
        self.assertEqual(heaps, [2, 0, 1])


class ChangingChoices(Case):
    def test_with_and_without_a_heap(self):
        for choice in some_choices(4):
            before = choice.heaps
            for heap in range(2 ** choice.letters):
                more = choice.with_heap(heap)
                fewer = choice.without_heap(heap)
                self.assert_same(more.heaps, tuple(sorted({*before, heap})))
                self.assert_same(fewer.heaps, tuple(sorted({*before} - {heap})))
                self.assertEqual((more.letters, fewer.letters), (choice.letters, choice.letters))
                self.assert_alike(choice, more if heap in before else fewer)
            self.assert_same(choice.heaps, before)
            for thing in NO_NUMBERS + (-1, 2 ** choice.letters):
                self.assert_error(BadHeap, {"index": 0}, choice.with_heap, thing)
                self.assert_error(BadHeap, {"index": 0}, choice.without_heap, thing)

    def test_joined_and_common(self):
        for letters in SIZES:
            sets = some_heap_sets(letters, 6, 12)[:40:3]
            for heaps in sets:
                for others in sets:
                    choice, other = Choice(letters, heaps), Choice(letters, others)
                    self.assert_alike(choice.joined(other), Choice(letters, sorted({*heaps} | {*others})))
                    self.assert_alike(choice.common(other), Choice(letters, sorted({*heaps} & {*others})))
                    self.assert_same((choice.heaps, other.heaps), (heaps, others))

    def test_joined_and_common_with_other_letters(self):
        for letters, others in itertools.permutations(SIZES, 2):
            choice, other = Choice(letters, (0,)), Choice(others, (0,))
            self.assert_error(OtherLetters, {"letters": others}, choice.joined, other)
            self.assert_error(OtherLetters, {"letters": others}, choice.common, other)

    def test_what_is_returned_is_new(self):
        choice = Choice(2, (0, 1))
        made = (choice.with_heap(0), choice.without_heap(3), choice.joined(choice), choice.common(choice))
        for one in made + (renamed_choice(choice, (0, 1)),):
            self.assert_alike(one, choice)
            self.assertIsNot(one, choice)


class CheckingChoices(Case):
    def test_same_letters(self):
        for letters in SIZES:
            for others in SIZES:
                if letters == others:
                    self.assertIsNone(check_same(letters, others))
                else:
                    self.assert_error(OtherLetters, {"letters": others}, check_same, letters, others)
        for thing in BAD_SIZES:
            self.assert_error(BadLetters, {}, check_same, thing, 2)

    def test_true_is_no_number_of_letters(self):
        self.assert_error(OtherLetters, {"letters": True}, check_same, 1, True)

    def test_some_heaps(self):
        for choice in some_choices(3):
            if choice.heaps:
                self.assertIs(check_some(choice), choice)
            else:
                self.assert_error(EmptyChoice, {}, check_some, choice)


class WordsOfCodes(Case):
    def test_a_word_is_in_the_code_if_all_its_heaps_are_chosen(self):
        for letters in (1, 2, 3):
            for heaps in some_heap_sets(letters, 15, 13):
                choice = Choice(letters, heaps)
                code = code_of(letters, heaps)
                for word in range(2 ** 2 ** letters):
                    self.assertIs(holds(choice, word), word in code)

    def test_words_of_more_letters(self):
        source = chance(14)
        for letters in (4, 5):
            for heaps in some_heap_sets(letters, 20, 15):
                choice = Choice(letters, heaps)
                for word in some_words(letters, 10, 16):
                    self.assertIs(holds(choice, word), set(heaps_of(letters, word)) <= set(heaps))
                for _ in range(5):
                    some = [heap for heap in heaps if source.random() < 0.5]
                    self.assertIs(holds(choice, sum_by_heaps(letters, some)), True)

    def test_wrong_words(self):
        for choice in some_choices(2):
            for thing in NO_NUMBERS + (-1, 2 ** 2 ** choice.letters):
                self.assert_error(BadWord, {"index": 0}, holds, choice, thing)
                self.assert_error(BadWord, {"index": 0}, number_of, choice, thing)

    def test_numbers_there_and_back(self):
        source = chance(17)
        for choice in some_choices(6):
            many = 2 ** choice.size
            numbers = range(many) if many <= 64 else [0, 1, many - 1] + [source.randrange(many) for _ in range(8)]
            for number in numbers:
                word = word_at(choice, number)
                chosen = [heap for index, heap in enumerate(choice.heaps) if number >> index & 1]
                self.assert_same(word, sum_by_heaps(choice.letters, chosen))
                self.assert_same(number_of(choice, word), number)

    def test_wrong_numbers(self):
        for choice in some_choices(3):
            most = 2 ** choice.size - 1
            for thing in NO_NUMBERS + (-1, most + 1, most + 10 ** 30):
                self.assert_error(BadNumber, {"most": most}, word_at, choice, thing)

    def test_the_least_heap_of_a_word_that_is_not_chosen(self):
        for letters in SIZES:
            words = some_words(letters, 12, 18)[::3]
            for heaps in some_heap_sets(letters, 6, 19)[::2]:
                choice = Choice(letters, heaps)
                for word in words:
                    strange = [heap for heap in heaps_of(letters, word) if heap not in heaps]
                    if strange:
                        self.assert_error(NotInCode, {"heap": min(strange)}, number_of, choice, word)
                    else:
                        self.assert_same(word_at(choice, number_of(choice, word)), word)

    def test_all_words_by_number(self):
        for choice in some_choices(5):
            if choice.size <= 8:
                words = list(all_words(choice))
                self.assert_same(words, [word_at(choice, number) for number in range(2 ** choice.size)])
                self.assertEqual(set(words), code_of(choice.letters, choice.heaps))

    def test_at_most_twelve_heaps_are_listed(self):
        for letters in (4, 5):
            twelve = Choice(letters, list(range(2, 14)))
            self.assertEqual(len(list(all_words(twelve))), 4096)
            for size in (13, 14, 2 ** letters):
                choice = Choice(letters, list(range(size)))
                self.assert_error(TooMany, {"most": 12}, lambda choice: list(all_words(choice)), choice)


class RenamedChoices(Case):
    def test_renamed_heaps_and_words(self):
        for letters in SIZES:
            orders = list(itertools.permutations(range(letters)))
            orders = orders if letters <= 3 else orders[::17]
            for heaps in some_heap_sets(letters, 4, 20)[::4]:
                choice = Choice(letters, heaps)
                for order in orders:
                    renamed = renamed_choice(choice, list(order))
                    due = {heap_number({order[letter] for letter in letter_set(heap)}) for heap in heaps}
                    self.assert_alike(renamed, Choice(letters, sorted(due)))
                    if choice.size <= 4:
                        words = {renamed_word(letters, word, order) for word in all_words(choice)}
                        self.assertEqual(set(all_words(renamed)), words)

    def test_wrong_orders(self):
        choice = Choice(3, (1, 2))
        for thing in NO_SEQUENCES + ((), (0, 1), (0, 1, 1), (0, 1, 2, 3), (0, True, 2), (1, 2, 3)):
            self.assert_error(BadOrder, {}, renamed_choice, choice, thing)


if __name__ == "__main__":
    unittest.main()
