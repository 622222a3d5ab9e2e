"""Exchanges of neighbouring letters, and the blocks of letters that they join."""

from lowerwords.choices import Choice
from lowerwords.errors import BadBlocks, BadLetter
from lowerwords.falling import check_falling
from lowerwords.heaps import all_heaps, check_letters, count_ones, is_whole
from lowerwords.keeping import Leaves
from lowerwords.substitutions import Substitution
from lowerwords.words import heap_word


def exchanged_letters(letters, letter):
    """The substitution that exchanges a letter and the next higher one."""
    _check_lower_neighbour(check_letters(letters), letter)
    return Substitution(letters, [(_exchanged_heap(1 << index, letter), 0) for index in range(letters)])


def _check_lower_neighbour(letters, letter):
    """The letter itself if there is a next higher one, or BadLetter()."""
    if not is_whole(letter, 0, letters - 2):
        raise BadLetter()
    return letter


def _exchanged_heap(heap, letter):
    """The heap with a letter and the next higher one exchanged."""
    both = 3 << letter
    # With both or none of the two letters in it a heap stays as it is.
    return heap if (heap & both) in (0, both) else heap ^ both


def exchange_kept(choice, letter):
    """None if the choice bears the exchange of a letter and the next higher one, else Leaves(heap, word)."""
    _check_lower_neighbour(choice.letters, letter)
    for heap in choice:
        exchanged = _exchanged_heap(heap, letter)
        if exchanged not in choice:
            return Leaves(heap, heap_word(choice.letters, exchanged))
    return None


def blocks_of(choice):
    """The blocks of a falling choice, the lowest first."""
    check_falling(choice)
    blocks = [(0,)]
    for letter in range(choice.letters - 1):
        if exchange_kept(choice, letter) is None:
            blocks[-1] = (*blocks[-1], letter + 1)
        else:
            blocks.append((letter + 1,))
    return tuple(blocks)


def check_blocks(letters, blocks):
    """The blocks as a tuple of tuples, or BadBlocks(index)."""
    check_letters(letters)
    if not isinstance(blocks, (list, tuple)):
        raise BadBlocks(0)
    start = 0
    for index, block in enumerate(blocks):
        if not _is_block(letters, block, start):
            raise BadBlocks(index)
        start = start + len(block)
    if start < letters:
        raise BadBlocks(len(blocks))
    return tuple([tuple(block) for block in blocks])


def _is_block(letters, block, start):
    """Whether a thing is a sequence of one or more of the letters that come next, from start on."""
    if not isinstance(block, (list, tuple)) or not 1 <= len(block) <= letters - start:
        return False
    return all([is_whole(letter, due, due) for due, letter in enumerate(block, start)])


def kept_closure(choice, blocks):
    """The least falling choice that has all heaps of the choice and bears the exchanges within the blocks."""
    letters = choice.letters
    blocks = check_blocks(letters, blocks)
    heaps = [heap for heap in all_heaps(letters) if any([_is_led_to(heap, other, blocks) for other in choice])]
    return Choice(letters, heaps)


def kept_core(choice, blocks):
    """The greatest falling choice that has only heaps of the choice and bears the exchanges within the blocks."""
    letters = choice.letters
    blocks = check_blocks(letters, blocks)
    missing = [heap for heap in all_heaps(letters) if heap not in choice]
    heaps = [heap for heap in choice if not any([_is_led_to(other, heap, blocks) for other in missing])]
    return Choice(letters, heaps)


def _is_led_to(heap, other, blocks):
    """Whether descents and exchanges within blocks lead from other to heap."""
    # Within a block a letter can go anywhere. So, as for is_below, letters from a place on are
    # counted, but only from the beginning of each block on.
    return all([count_ones(heap >> block[0]) <= count_ones(other >> block[0]) for block in blocks])
