"""blocks.py: [5.2] to [5.5], [5.10], [5.14]."""

import itertools
import unittest

from lowerwords.blocks import (
    blocks_of,
    check_blocks,
    exchange_kept,
    exchanged_letters,
    kept_closure,
    kept_core,
)
from lowerwords.choices import Choice
from lowerwords.errors import BadBlocks, BadLetter, BadLetters, NotClosed, NotFalling
from lowerwords.falling import closed_by, closure_of
from lowerwords.keeping import Leaves, kept_by
from lowerwords.rests import rest_of
from lowerwords.substitutions import Substitution
from tests.support import (
    BAD_SIZES,
    NO_NUMBERS,
    NO_SEQUENCES,
    SIZES,
    Case,
    code_of,
    descents_by_sets,
    falling_sets,
    heap_number,
    is_falling_set,
    letter_set,
    some_heap_sets,
    some_words,
    subset_sets,
    word_by_places,
)


def exchanged(heap, letter):
    """The heap with letter and letter + 1 exchanged."""
    names = {letter: letter + 1, letter + 1: letter}
    return heap_number({names.get(old, old) for old in letter_set(heap)})


def bears(heaps, letter):
    """Whether with each heap the exchanged one is there."""
    return all(exchanged(heap, letter) in heaps for heap in heaps)


def all_blocks(letters):
    """All ways to cut the letters into blocks of neighbours."""
    found = []
    for cuts in itertools.product((False, True), repeat=letters - 1):
        blocks = [[0]]
        for letter, cut in enumerate(cuts, 1):
            if cut:
                blocks.append([])
            blocks[-1].append(letter)
        found.append(tuple(tuple(block) for block in blocks))
    return found


def blocks_by_exchanges(letters, heaps):
    """The blocks of a choice that falls."""
    blocks = [[0]]
    for letter in range(1, letters):
        if not bears(heaps, letter - 1):
            blocks.append([])
        blocks[-1].append(letter)
    return tuple(tuple(block) for block in blocks)


def steps_from(heap, blocks):
    """The heaps that one descent, or one exchange within a block, makes of a heap."""
    found = descents_by_sets(heap)
    for block in blocks:
        found |= {exchanged(heap, letter) for letter in block[:-1]}
    return found


def reached_from(heaps, blocks):
    """All heaps that descents and exchanges within blocks make of the heaps, as a set."""
    found = set(heaps)
    new = list(heaps)
    while new:
        further = steps_from(new.pop(), blocks) - found
        found |= further
        new += further
    return found


class Exchanges(Case):
    def test_exchanged_letters(self):
        for letters in SIZES:
            for letter in range(letters - 1):
                rows = [(2 ** index, 0) for index in range(letters)]
                rows[letter], rows[letter + 1] = rows[letter + 1], rows[letter]
                found = exchanged_letters(letters, letter)
                self.assert_alike(found, Substitution(letters, rows))
                for heap in range(2 ** letters):
                    due = word_by_places(letters, exchanged(heap, letter))
                    self.assertEqual(found.moved(word_by_places(letters, heap)), due)
                for word in some_words(letters, 5, 400)[:300]:
                    self.assertEqual(found.moved(found.moved(word)), word)

    def test_errors_of_exchanged_letters(self):
        for letters in BAD_SIZES:
            for letter in (0, None, -1):
                self.assert_error(BadLetters, {}, exchanged_letters, letters, letter)
        for letters in SIZES:
            for bad in NO_NUMBERS + (-1, letters - 1, letters, 10 ** 30):
                self.assert_error(BadLetter, {}, exchanged_letters, letters, bad)

    def assert_exchange(self, choice, letter):
        """The result is the due one."""
        result = exchange_kept(choice, letter)
        gaps = [heap for heap in choice.heaps if exchanged(heap, letter) not in choice.heaps]
        self.assertIs(result is None, bears(choice.heaps, letter))
        if gaps:
            heap = min(gaps)
            word = word_by_places(choice.letters, exchanged(heap, letter))
            self.assert_alike(result, Leaves(heap, word))
            self.assert_same((result.heap, result.word), (heap, word))

    def test_exchange_kept_of_any_choice(self):
        for letters in (1, 2, 3):
            for heaps in subset_sets(letters):
                for letter in range(letters - 1):
                    self.assert_exchange(Choice(letters, heaps), letter)
        for letters in (4, 5):
            for heaps in some_heap_sets(letters, 20, 401):
                for letter in range(letters - 1):
                    choice = Choice(letters, heaps)
                    self.assert_exchange(choice, letter)
                    self.assert_exchange(closure_of(choice), letter)
                    both = heaps + tuple(exchanged(heap, letter) for heap in heaps)
                    self.assertIsNone(exchange_kept(Choice(letters, both), letter))

    def test_borne_exactly_if_the_substitution_keeps_the_code(self):
        for letters in (2, 3):
            for heaps in list(subset_sets(letters))[::3]:
                choice = Choice(letters, heaps)
                for letter in range(letters - 1):
                    substitution = exchanged_letters(letters, letter)
                    code = code_of(letters, heaps)
                    kept = all(substitution.moved(word) in code for word in code)
                    self.assertIs(exchange_kept(choice, letter) is None, kept)
                    self.assertIs(kept_by(choice, substitution) is None, kept)

    def test_errors_of_exchange_kept(self):
        for letters in SIZES:
            for bad in NO_NUMBERS + (-1, letters - 1, letters):
                for heaps in ((), (0,), (1,)):
                    self.assert_error(BadLetter, {}, exchange_kept, Choice(letters, heaps), bad)

    def test_the_example_of_the_document(self):
        choice = Choice(3, (0, 1, 2, 3, 4, 5))
        self.assert_alike(exchange_kept(choice, 0), Leaves(5, 192))
        self.assertIsNone(exchange_kept(choice, 1))
        self.assert_same(blocks_of(choice), ((0,), (1, 2)))


class Blocks(Case):
    def test_all_falling_choices(self):
        for letters in SIZES:
            for heaps in falling_sets(letters):
                self.assert_same(blocks_of(Choice(letters, heaps)), blocks_by_exchanges(letters, heaps))

    def test_the_empty_choice_and_all_heaps(self):
        for letters in SIZES:
            one = (tuple(range(letters)),)
            self.assert_same(blocks_of(Choice(letters, ())), one)
            self.assert_same(blocks_of(Choice(letters, list(range(2 ** letters)))), one)

    def test_other_choices_are_refused(self):
        for letters in SIZES:
            self.assert_error(NotClosed, {"heap": 1, "missing": 0}, blocks_of, Choice(letters, (1,)))
        self.assert_error(NotFalling, {"heap": 4, "missing": 1}, blocks_of, Choice(3, (0, 4)))
        self.assert_error(NotFalling, {"heap": 2, "missing": 1}, blocks_of, Choice(2, (0, 2)))
        self.assert_error(NotClosed, {"heap": 12, "missing": 8}, blocks_of, Choice(4, (0, 2, 4, 12)))


class CheckBlocks(Case):
    def test_all_blocks(self):
        for letters in SIZES:
            for blocks in all_blocks(letters):
                for passed in (blocks, list(blocks), [list(block) for block in blocks], tuple(map(list, blocks))):
                    self.assert_same(check_blocks(letters, passed), blocks)

    def assert_bad(self, index, letters, blocks):
        """The blocks are refused with this index, by every function that takes any."""
        self.assert_error(BadBlocks, {"index": index}, check_blocks, letters, blocks)
        for heaps in ((), (0,), (1,)):
            self.assert_error(BadBlocks, {"index": index}, kept_closure, Choice(letters, heaps), blocks)
            self.assert_error(BadBlocks, {"index": index}, kept_core, Choice(letters, heaps), blocks)

    def test_bad_letters_come_first(self):
        for letters in BAD_SIZES:
            for blocks in (((0,),), (), None):
                self.assert_error(BadLetters, {}, check_blocks, letters, blocks)

    def test_no_sequence(self):
        for thing in NO_SEQUENCES + ({(0,)}, {(0,): 0}, iter(((0,),))):
            self.assert_bad(0, 1, thing)

    def test_things_that_are_no_blocks(self):
        bad_items = ((), [], (1, 2), (2,), (0, 2), (0, 0), (-1,), (True,), (False,), (1.0,), ("1",), None)
        for bad in NO_SEQUENCES + bad_items:
            self.assert_bad(0, 3, (bad, (1,), (2,)))
            self.assert_bad(1, 4, ((0,), bad if bad != (1, 2) else (2, 1), (3,)))
            self.assert_bad(1, 4, [[0, 1, 2], bad, None])
        self.assert_bad(1, 2, ((0,), (True,)))
        self.assert_bad(0, 2, ((False, 1),))
        self.assert_bad(0, 2, ((0, True),))
        self.assert_bad(0, 2, (0, 1))

    def test_a_letter_too_many(self):
        for letters in SIZES:
            self.assert_bad(0, letters, (tuple(range(letters + 1)),))
            self.assert_bad(1, letters, (tuple(range(letters)), (letters,)))
            self.assert_bad(1, letters, (tuple(range(letters)), ()))
            single = tuple((letter,) for letter in range(letters))
            self.assert_bad(letters, letters, single + ((letters,),))
            self.assert_bad(letters - 1, letters, single[:-1] + ((letters - 1, letters),))

    def test_letters_left_over(self):
        for letters in SIZES:
            self.assert_bad(0, letters, ())
            self.assert_bad(0, letters, [])
            for blocks in all_blocks(letters):
                if len(blocks) > 1:
                    self.assert_bad(len(blocks) - 1, letters, blocks[:-1])
                if len(blocks[-1]) > 1:
                    self.assert_bad(len(blocks), letters, blocks[:-1] + (blocks[-1][:-1],))

    def test_nothing_passed_in_is_kept(self):
        blocks = [[0], [1, 2]]
        checked = check_blocks(3, blocks)
        blocks[1].pop()
        self.assert_same(checked, ((0,), (1, 2)))


class Kept(Case):
    def assert_kept(self, letters, heaps, blocks):
        """Closure and core are the due ones."""
        choice = Choice(letters, heaps)
        closure = kept_closure(choice, blocks)
        self.assert_alike(closure, Choice(letters, sorted(reached_from(heaps, blocks))))
        core = kept_core(choice, [list(block) for block in blocks])
        due = [heap for heap in heaps if reached_from((heap,), blocks) <= set(heaps)]
        self.assert_alike(core, Choice(letters, due))
        for found in (closure, core):
            self.assertTrue(is_falling_set(found.heaps))
            for block in blocks:
                for letter in block[:-1]:
                    self.assertTrue(bears(found.heaps, letter))
        self.assertEqual(choice.heaps, heaps)

    def test_any_choice(self):
        for letters in (1, 2, 3):
            for heaps in subset_sets(letters):
                for blocks in all_blocks(letters):
                    self.assert_kept(letters, heaps, blocks)
        for letters in (4, 5):
            for heaps in some_heap_sets(letters, 5, 402) + falling_sets(letters)[::9]:
                for blocks in all_blocks(letters)[::1 if letters == 4 else 3]:
                    self.assert_kept(letters, heaps, blocks)

    def test_the_greatest_and_the_least_of_all_falling_choices(self):
        for letters in (1, 2, 3):
            falling = falling_sets(letters)
            for blocks in all_blocks(letters):
                pairs = [letter for block in blocks for letter in block[:-1]]
                bearing = [heaps for heaps in falling if all(bears(heaps, letter) for letter in pairs)]
                for heaps in subset_sets(letters):
                    over = [other for other in bearing if set(heaps) <= set(other)]
                    under = [other for other in bearing if set(other) <= set(heaps)]
                    closure = set(kept_closure(Choice(letters, heaps), blocks).heaps)
                    core = set(kept_core(Choice(letters, heaps), blocks).heaps)
                    self.assertEqual(closure, set.intersection(*map(set, over)))
                    self.assertEqual(core, set.union(*map(set, under)))

    def test_the_core_of_a_closed_choice(self):
        for letters in SIZES:
            for heaps in some_heap_sets(letters, 12, 403):
                choice = closed_by(Choice(letters, heaps))
                for blocks in all_blocks(letters)[::1 if letters < 5 else 3]:
                    due = rest_of(kept_closure(rest_of(choice), blocks))
                    self.assert_alike(kept_core(choice, blocks), due)

    def test_the_blocks_of_the_results_join_at_least_those(self):
        for letters in (3, 4):
            for heaps in some_heap_sets(letters, 8, 404):
                for blocks in all_blocks(letters):
                    for call in (kept_closure, kept_core):
                        found = blocks_of(call(Choice(letters, heaps), blocks))
                        for block in blocks:
                            self.assertTrue(any(set(block) <= set(other) for other in found))

    def test_single_blocks(self):
        for letters in SIZES:
            single = tuple((letter,) for letter in range(letters))
            for heaps in some_heap_sets(letters, 10, 405):
                choice = Choice(letters, heaps)
                self.assert_alike(kept_closure(choice, single), closure_of(choice))
            for heaps in falling_sets(letters)[::5]:
                self.assert_alike(kept_core(Choice(letters, heaps), single), Choice(letters, heaps))

    def test_the_codes(self):
        # The group of one block has all substitutions; over steps and exchanges all of them come.
        for letters, blocks in ((2, ((0, 1),)), (3, ((0, 1, 2),)), (3, ((0,), (1, 2))), (3, ((0, 1), (2,)))):
            moves = group_moves(letters, blocks)
            for heaps in list(subset_sets(letters))[::7]:
                choice = Choice(letters, heaps)
                sums = orbit_sums(moves, [word_by_places(letters, heap) for heap in heaps])
                self.assertEqual(sums, code_of(letters, kept_closure(choice, blocks).heaps))
                code = code_of(letters, heaps)
                core = code_of(letters, kept_core(choice, blocks).heaps)
                self.assertEqual({word for word in code if orbit(moves, word) <= code}, core)


def group_moves(letters, blocks):
    """Substitutions of which all those of the group of blocks are made: steps, and exchanges within blocks."""
    moves = []
    for letter in range(letters):
        for lot, bit in [(2 ** letter, 1)] + [(2 ** letter + 2 ** lower, 0) for lower in range(letter)]:
            rows = [(2 ** index, 0) for index in range(letters)]
            rows[letter] = (lot, bit)
            moves.append(Substitution(letters, rows))
    return moves + [exchanged_letters(letters, letter) for block in blocks for letter in block[:-1]]


def orbit(moves, word):
    """All words that the moves make of a word, again and again."""
    found = {word}
    new = [word]
    while new:
        old = new.pop()
        for move in moves:
            made = move.moved(old)
            if made not in found:
                found.add(made)
                new.append(made)
    return found


def orbit_sums(moves, words):
    """All sums of what the moves make of the words."""
    found = {0}
    for word in words:
        if word not in found:
            for made in orbit(moves, word):
                if made not in found:
                    found |= {made ^ old for old in found}
    return found


if __name__ == "__main__":
    unittest.main()
