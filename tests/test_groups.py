"""groups.py: [5.1], [5.6] to [5.9], [5.14]."""

import itertools
import unittest

from lowerwords.blocks import blocks_of
from lowerwords.choices import Choice
from lowerwords.errors import (
    BadBlocks,
    BadLetters,
    BadNumber,
    NotClosed,
    NotFalling,
    NotMember,
    OtherLetters,
    TooMany,
)
from lowerwords.groups import (
    Outside,
    all_members,
    block_group_size,
    group_size,
    in_group,
    member_at,
    member_number,
    outside_group,
)
from lowerwords.keeping import kept_by
from lowerwords.substitutions import Substitution
from tests.support import (
    BAD_SIZES,
    NO_NUMBERS,
    SIZES,
    Case,
    all_sums,
    chance,
    code_of,
    falling_sets,
)
from tests.test_blocks import all_blocks
from tests.test_substitutions import chance_rows, plain_rows, some_rows

ALL_ROWS = {
    letters: [
        tuple(zip(lots, bits))
        for lots in itertools.permutations(range(1, 2 ** letters), letters)
        if len(all_sums(lots)) == 2 ** letters
        for bits in itertools.product((0, 1), repeat=letters)
    ]
    for letters in (1, 2, 3)
}


def block_of(blocks, letter):
    """The block of a letter."""
    return next(block for block in blocks if letter in block)


def row_list(letters, blocks, rows, letter):
    """All rows that a letter can have behind the rows of the letters before it, in the order of the document."""
    block = block_of(blocks, letter)
    least, high = block[0], sum(2 ** other for other in block)
    below = 2 ** least - 1
    taken = all_sums(rows[other][0] & high for other in block if other < letter)
    found = []
    for lot in range(2 ** (block[-1] + 1)):
        if lot & high not in taken:
            found += [(lot & high, lot & below, bit) for bit in (0, 1)]
    return [(part + low, bit) for part, low, bit in sorted(found)]


def number_by_lists(letters, blocks, rows):
    """The number of a member, digit by digit from lists of all rows."""
    number, base = 0, 1
    for letter in range(letters):
        choices = row_list(letters, blocks, rows, letter)
        number += base * choices.index(rows[letter])
        base *= len(choices)
    return number


def outside_by_sets(blocks, rows):
    """The least letter whose lot has a letter of a higher block, and the highest letter of that lot; or None."""
    for letter, (lot, _) in enumerate(rows):
        if lot >> (block_of(blocks, letter)[-1] + 1):
            return letter, max(other for other in range(5) if lot >> other & 1)
    return None


def chance_member(letters, blocks, source):
    """The rows of a member, by chance."""
    rows = []
    for letter in range(letters):
        rows.append(source.choice(row_list(letters, blocks, rows, letter)))
    return tuple(rows)


def some_falling(step=9):
    """Falling choices of all letters, all of few letters."""
    for letters in SIZES:
        sets = falling_sets(letters)
        for heaps in sets if letters < 4 else sets[::step] + [sets[-1]]:
            yield Choice(letters, heaps)


class Sizes(Case):
    def test_result(self):
        self.assert_result(Outside, ("letter", "far"))

    def test_few_letters_by_counting(self):
        for letters in (1, 2, 3):
            for blocks in all_blocks(letters):
                due = len([rows for rows in ALL_ROWS[letters] if outside_by_sets(blocks, rows) is None])
                self.assert_same(block_group_size(letters, blocks), due)
                self.assert_same(block_group_size(letters, [list(block) for block in blocks]), due)

    def test_the_formula(self):
        for letters in SIZES:
            for blocks in all_blocks(letters):
                due = 2 ** letters
                for block in blocks:
                    for index in range(len(block)):
                        due *= 2 ** len(block) - 2 ** index
                for one, other in itertools.combinations(range(letters), 2):
                    due *= 1 if block_of(blocks, one) == block_of(blocks, other) else 2
                self.assert_same(block_group_size(letters, blocks), due)

    def test_single_blocks_and_one_block(self):
        for letters in SIZES:
            single = tuple((letter,) for letter in range(letters))
            self.assert_same(block_group_size(letters, single), 2 ** (letters * (letters + 1) // 2))
        self.assert_same(block_group_size(3, ((0, 1, 2),)), 8 * 168)
        self.assert_same(block_group_size(5, ((0, 1, 2, 3, 4),)), 32 * 9999360)

    def test_group_size(self):
        for letters in SIZES:
            for heaps in falling_sets(letters):
                choice = Choice(letters, heaps)
                self.assert_same(group_size(choice), block_group_size(letters, blocks_of(choice)))
        self.assert_same(group_size(Choice(3, (0, 1, 2, 3, 4, 5))), 192)
        self.assert_same(group_size(Choice(2, (0, 1))), 8)

    def test_errors(self):
        for letters in BAD_SIZES:
            for blocks in (((0,),), None):
                self.assert_error(BadLetters, {}, block_group_size, letters, blocks)
        self.assert_error(BadBlocks, {"index": 0}, block_group_size, 2, None)
        self.assert_error(BadBlocks, {"index": 1}, block_group_size, 2, ((0,), (0,)))
        self.assert_error(BadBlocks, {"index": 1}, block_group_size, 2, ((0,),))
        self.assert_error(BadBlocks, {"index": 1}, block_group_size, 2, ((0,), (True,)))


class Membership(Case):
    def assert_outside(self, choice, rows):
        """The result is the due one."""
        substitution = Substitution(choice.letters, rows)
        due = outside_by_sets(blocks_of(choice), rows)
        result = outside_group(choice, substitution)
        self.assertIs(in_group(choice, substitution), due is None)
        if due is None:
            self.assertIsNone(result)
        else:
            self.assert_alike(result, Outside(*due))
            self.assert_same((result.letter, result.far), due)
        self.assertIs(kept_by(choice, substitution) is None, due is None)

    def test_few_letters(self):
        for letters in (1, 2, 3):
            for heaps in falling_sets(letters):
                for rows in ALL_ROWS[letters][::1 if letters < 3 else 3]:
                    self.assert_outside(Choice(letters, heaps), rows)

    def test_against_the_code_itself(self):
        for letters in (1, 2, 3):
            for heaps in falling_sets(letters):
                choice = Choice(letters, heaps)
                code = code_of(letters, heaps)
                for rows in ALL_ROWS[letters][::1 if letters < 3 else 29]:
                    substitution = Substitution(letters, rows)
                    kept = all(substitution.moved(word) in code for word in code)
                    self.assertIs(in_group(choice, substitution), kept)

    def test_more_letters(self):
        source = chance(410)
        for letters in (4, 5):
            for heaps in falling_sets(letters)[::4]:
                choice = Choice(letters, heaps)
                for rows in some_rows(letters, 6, 411):
                    self.assert_outside(choice, rows)
                self.assert_outside(choice, plain_rows(letters))
                rows = list(chance_member(letters, blocks_of(choice), source))
                self.assert_outside(choice, tuple(rows))
                # One further letter in a lot, so that just this row is outside if the letter is a higher one.
                letter, far = sorted(source.sample(range(letters), 2))
                rows[letter] = (rows[letter][0] ^ 2 ** far, rows[letter][1])
                if len(all_sums(lot for lot, _ in rows)) == 2 ** letters:
                    self.assert_outside(choice, tuple(rows))


class Members(Case):
    def test_small_groups(self):
        for letters in (1, 2, 3):
            for heaps in falling_sets(letters):
                choice = Choice(letters, heaps)
                blocks = blocks_of(choice)
                size = group_size(choice)
                members = list(all_members(choice))
                self.assertEqual(len(members), size)
                self.assertEqual(len({member.rows for member in members}), size)
                for number in range(0, size, 1 if size < 200 else 5):
                    rows = members[number].rows
                    self.assertEqual(number_by_lists(letters, blocks, rows), number)
                    self.assert_alike(member_at(choice, number), members[number])
                    self.assert_same(member_number(choice, members[number]), number)

    def test_great_groups(self):
        source = chance(412)
        for letters in (4, 5):
            for heaps in falling_sets(letters)[::3]:
                choice = Choice(letters, heaps)
                blocks = blocks_of(choice)
                size = group_size(choice)
                for number in (0, 1, size - 1, size // 2, source.randrange(size), source.randrange(size)):
                    member = member_at(choice, number)
                    self.assertEqual(number_by_lists(letters, blocks, member.rows), number)
                    self.assert_same(member_number(choice, member), number)
                    self.assertIs(in_group(choice, member), True)
                for _ in range(3):
                    rows = chance_member(letters, blocks, source)
                    number = member_number(choice, Substitution(letters, rows))
                    self.assert_same(number, number_by_lists(letters, blocks, rows))
                    self.assert_same(member_at(choice, number).rows, rows)

    def test_member_0_changes_nothing(self):
        for choice in some_falling():
            self.assert_same(member_at(choice, 0).rows, plain_rows(choice.letters))
            self.assert_same(member_number(choice, Substitution(choice.letters, plain_rows(choice.letters))), 0)

    def test_a_member_after_a_member_and_back(self):
        source = chance(413)
        for choice in some_falling():
            size = group_size(choice)
            for _ in range(5):
                one = member_at(choice, source.randrange(size))
                other = member_at(choice, source.randrange(size))
                self.assertIs(in_group(choice, one.after(other)), True)
                self.assertIs(in_group(choice, one.back()), True)
                self.assert_same(member_number(choice, one.after(one.back())), 0)

    def test_the_example_of_the_document(self):
        choice = Choice(3, (0, 1, 2, 3, 4, 5))
        self.assert_same(member_at(choice, 1).rows, ((1, 1), (2, 0), (4, 0)))
        self.assert_same(member_at(choice, 2).rows, ((1, 0), (2, 1), (4, 0)))
        self.assert_same(member_at(choice, 4).rows, ((1, 0), (3, 0), (4, 0)))
        self.assertEqual(len(list(all_members(choice))), 192)
        # The part in the block {2} is number 1 of the sets ({1}), ({2}), ({1, 2}): digit 4 of letter 1.
        self.assert_same(member_at(choice, 8).rows, ((1, 0), (4, 0), (2, 0)))

    def test_too_many(self):
        for letters in (4, 5):
            for heaps in falling_sets(letters):
                self.assert_error(TooMany, {"most": 2048}, list_members, Choice(letters, heaps))
        for heaps in falling_sets(3):
            self.assertLessEqual(len(list(all_members(Choice(3, heaps)))), 1344)


class Errors(Case):
    def test_the_choice_comes_first(self):
        swap = Substitution(2, ((2, 0), (1, 0)))
        calls = [(group_size, ()), (list_members, ())]
        for further in (0, -1, None):
            calls.append((member_at, (further,)))
        for call in (in_group, outside_group, member_number):
            calls.append((call, (swap,)))
        for call, told in calls:
            for letters in SIZES:
                self.assert_error(NotClosed, {"heap": 1, "missing": 0}, call, Choice(letters, (1,)), *told)
            self.assert_error(NotFalling, {"heap": 2, "missing": 1}, call, Choice(2, (0, 2)), *told)
            self.assert_error(NotFalling, {"heap": 4, "missing": 1}, call, Choice(3, (0, 4)), *told)
            self.assert_error(NotClosed, {"heap": 12, "missing": 8}, call, Choice(4, (0, 2, 4, 12)), *told)
            self.assert_error(NotClosed, {"heap": 24, "missing": 16}, call, Choice(5, (0, 8, 24)), *told)

    def test_bad_numbers(self):
        for choice in some_falling():
            most = group_size(choice) - 1
            for bad in NO_NUMBERS + (-1, most + 1, 10 ** 30):
                self.assert_error(BadNumber, {"most": most}, member_at, choice, bad)

    def test_other_letters(self):
        for letters, others in itertools.permutations(SIZES, 2):
            for heaps in ((), (0,)):
                for rows in (plain_rows(others), plain_rows(others)[::-1]):
                    substitution = Substitution(others, rows)
                    for call in (in_group, outside_group, member_number):
                        self.assert_error(OtherLetters, {"letters": others}, call, Choice(letters, heaps), substitution)

    def test_not_member(self):
        source = chance(414)
        for choice in some_falling(5):
            for _ in range(12):
                rows = chance_rows(choice.letters, source)
                due = outside_by_sets(blocks_of(choice), rows)
                if due is not None:
                    told = {"letter": due[0], "far": due[1]}
                    self.assert_error(NotMember, told, member_number, choice, Substitution(choice.letters, rows))
        swap = Substitution(2, ((2, 0), (1, 0)))
        self.assert_error(NotMember, {"letter": 0, "far": 1}, member_number, Choice(2, (0, 1)), swap)
        far = Substitution(3, ((1, 0), (7, 0), (4, 1)))
        self.assert_error(NotMember, {"letter": 1, "far": 2}, member_number, Choice(3, (0, 1, 2)), far)
        self.assertIsNone(outside_group(Choice(3, (0, 1)), far))


def list_members(choice):
    """The generator, asked for its first items."""
    return list(all_members(choice))


if __name__ == "__main__":
    unittest.main()
