"""The groups of all substitutions that keep the codes of falling choices, and their members by number."""

from lowerwords.blocks import blocks_of, check_blocks
from lowerwords.choices import check_same
from lowerwords.errors import NotMember, TooMany
from lowerwords.heaps import check_number
from lowerwords.substitutions import Substitution

MOST_LISTED_MEMBERS = 2048


def block_group_size(letters, blocks):
    """How many substitutions the group of blocks has."""
    size = 1
    for block in check_blocks(letters, blocks):
        for index in range(len(block)):
            size = size * _many_rows(block, index)
    return size


def _many_rows(block, index):
    """How many rows the letter with this index in the block can have beside the rows of the letters before it."""
    # The part of the lot in the block is no sum of the parts before it; the letters below and the bit are free.
    return ((1 << len(block)) - (1 << index)) << (block[0] + 1)


def group_size(choice):
    """How many substitutions keep the code of a falling choice."""
    return block_group_size(choice.letters, blocks_of(choice))


def in_group(choice, substitution):
    """Whether a substitution is in the group of a falling choice."""
    return outside_group(choice, substitution) is None


def outside_group(choice, substitution):
    """None if a substitution is in the group of a falling choice, else Outside(letter, far)."""
    blocks = blocks_of(choice)
    check_same(choice.letters, substitution.letters)
    for block in blocks:
        for letter in block:
            far = substitution.rows[letter][0].bit_length() - 1
            if far > block[-1]:
                return Outside(letter, far)
    return None


def member_at(choice, number):
    """The member with a number of the group of a falling choice."""
    check_number(number, group_size(choice) - 1)
    return _member(choice.letters, blocks_of(choice), number)


def _member(letters, blocks, number):
    """The member with a number of the group of blocks."""
    rows = []
    for block in blocks:
        parts = []
        for index in range(len(block)):
            number, digit = divmod(number, _many_rows(block, index))
            part = _free_parts(block, parts)[digit >> (block[0] + 1)]
            below = (digit >> 1) & _letters_below(block)
            rows.append(((part << block[0]) | below, digit & 1))
            parts.append(part)
    return Substitution(letters, rows)


def _letters_below(block):
    """The heap of the letters below a block."""
    return (1 << block[0]) - 1


def _free_parts(block, parts):
    """The sets of letters of the block that are no sums of the parts, ascending, the block's least letter as 0."""
    sums = [0]
    for part in parts:
        sums = sums + [other ^ part for other in sums]
    return [part for part in range(1 << len(block)) if part not in sums]


def member_number(choice, substitution):
    """The number of a member of the group of a falling choice."""
    gap = outside_group(choice, substitution)
    if gap is not None:
        raise NotMember(gap.letter, gap.far)
    number = 0
    base = 1
    for block in blocks_of(choice):
        parts = []
        for index, letter in enumerate(block):
            lot, bit = substitution.rows[letter]
            part = lot >> block[0]
            below = lot & _letters_below(block)
            row_number = (_free_parts(block, parts).index(part) << block[0]) + below
            number = number + base * (2 * row_number + bit)
            base = base * _many_rows(block, index)
            parts.append(part)
    return number


def all_members(choice):
    """Yield all members of the group of a falling choice by number."""
    size = group_size(choice)
    if size > MOST_LISTED_MEMBERS:
        raise TooMany(MOST_LISTED_MEMBERS)
    blocks = blocks_of(choice)
    for number in range(size):
        yield _member(choice.letters, blocks, number)


class Outside:
    """The lot of the letter has a letter of a higher block; far is the highest letter of that lot."""

    def __init__(self, letter, far):
        self.letter = letter
        self.far = far

    def __eq__(self, other):
        return isinstance(other, Outside) and self.letter == other.letter and self.far == other.far
