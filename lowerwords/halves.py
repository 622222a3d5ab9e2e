"""Halves of choices and words, and codes struck or shortened by a letter."""

from lowerwords.choices import Choice, check_same
from lowerwords.errors import BadHalves, BadLetters
from lowerwords.falling import first_gap
from lowerwords.heaps import MOST_LETTERS, all_heaps, check_bit, check_letter, check_letters
from lowerwords.words import check_word, full_word


def _check_more(letters):
    """The number of letters itself, or BadLetters() if it is no whole number from 2 to 5."""
    if check_letters(letters) == 1:
        raise BadLetters()
    return letters


def _check_fewer(letters):
    """The number of letters itself, or BadLetters() if it is no whole number from 1 to 4."""
    if check_letters(letters) == MOST_LETTERS:
        raise BadLetters()
    return letters


def halves_of(choice):
    """The first half, of the heaps without the highest letter, and the second half, of those with it."""
    highest = _check_more(choice.letters) - 1
    return strike(choice, highest, 0), shorten(choice, highest, 1)


def half_words(letters, word):
    """The lower half of a word, and the sum of its lower and its upper half."""
    fewer = _check_more(letters) - 1
    check_word(letters, word)
    lower = word & full_word(fewer)
    return lower, lower ^ (word >> (1 << fewer))


def joined_words(letters, first, second):
    """The word of one letter more with first as its lower half and the sum of both as its upper half."""
    _check_fewer(letters)
    check_word(letters, first)
    check_word(letters, second)
    return first | ((first ^ second) << (1 << letters))


def joined_halves(first, second, *, must_fall=False):
    """The choice of one letter more whose halves are these."""
    letters = _check_fewer(first.letters)
    check_same(letters, second.letters)
    if must_fall:
        gap = halves_gap(first, second)
        if gap is not None:
            raise BadHalves(gap.what)
    return Choice(letters + 1, [*first, *[heap | (1 << letters) for heap in second]])


def halves_gap(first, second):
    """None if the joined choice is falling, else HalfGap(what, heap, missing)."""
    letters = _check_fewer(first.letters)
    check_same(letters, second.letters)
    for what, half in (("first", first), ("second", second)):
        gap = first_gap(half)
        if gap is not None:
            heap, missing = gap
            return HalfGap(what, heap, missing)
    for heap in second:
        if heap not in first:
            return HalfGap("within", heap, heap)
        for letter in range(letters):
            # With a letter that it has the heap stays the same, so only further ones can be missing.
            if heap | (1 << letter) not in first:
                return HalfGap("further", heap, heap | (1 << letter))
    return None


def strike_word(letters, word, letter, bit):
    """The word of the values at the places where a letter has a bit, in the order of these places."""
    _check_more(letters)
    check_word(letters, word)
    places = _struck_places(letters, letter, bit)
    return sum([(word >> place & 1) << index for index, place in enumerate(places)])


def widen_word(letters, word, letter, bit):
    """The word that is struck to this word of one letter less, and is 0 where the letter has the other bit."""
    check_word(_check_more(letters) - 1, word)
    places = _struck_places(letters, letter, bit)
    return sum([(word >> index & 1) << place for index, place in enumerate(places)])


def _struck_places(letters, letter, bit):
    """The places at which a letter has a bit, ascending, or BadLetter(), or BadBit()."""
    check_letter(letters, letter)
    check_bit(bit)
    return [place for place in all_heaps(letters) if place >> letter & 1 == bit]


def strike(choice, letter, bit):
    """The choice of all struck words of the code."""
    letters = _check_struck(choice, letter, bit)
    if bit == 1:
        return Choice(letters, [_without(heap, letter) for heap in choice])
    return Choice(letters, [_without(heap, letter) for heap in choice if not heap >> letter & 1])


def shorten(choice, letter, bit):
    """The choice of the struck words of those words of the code that are 0 where the letter has the other bit."""
    letters = _check_struck(choice, letter, bit)
    having = [heap for heap in choice if heap >> letter & 1]
    if bit == 1:
        return Choice(letters, [_without(heap, letter) for heap in having])
    return Choice(letters, [_without(heap, letter) for heap in having if heap ^ (1 << letter) in choice])


def _check_struck(choice, letter, bit):
    """One letter less than the choice has, or BadLetters(), BadLetter() or BadBit()."""
    letters = _check_more(choice.letters)
    check_letter(letters, letter)
    check_bit(bit)
    return letters - 1


def _without(heap, letter):
    """The heap with a letter taken off where it is there, and the letters above it one lower."""
    lower = (1 << letter) - 1
    return (heap & lower) | ((heap >> 1) & ~lower)


class HalfGap:
    """Why a joined choice is not falling: which check fails, the heap, and the heap missing for it."""

    def __init__(self, what, heap, missing):
        self.what = what
        self.heap = heap
        self.missing = missing

    def __eq__(self, other):
        return (
            isinstance(other, HalfGap)
            and self.what == other.what
            and self.heap == other.heap
            and self.missing == other.missing
        )
