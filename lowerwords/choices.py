"""Choices of heaps, and the words of their codes."""

from lowerwords.errors import BadChoice, BadHeap, EmptyChoice, NotInCode, OtherLetters, TooMany
from lowerwords.heaps import (
    MOST_LETTERS,
    all_letters,
    check_heap,
    check_heaps,
    check_letters,
    check_number,
    count_ones,
    is_whole,
)
from lowerwords.words import check_order, heap_word, heaps_of, renamed_heap, word_of

MOST_LISTED_SIZE = 12


def check_same(letters, other_letters):
    """Raise OtherLetters(other_letters) if the two are unlike."""
    check_letters(letters)
    if not is_whole(other_letters, letters, letters):
        raise OtherLetters(other_letters)


def check_some(choice):
    """The choice itself, or EmptyChoice()."""
    if choice.size == 0:
        raise EmptyChoice()
    return choice


def holds(choice, word):
    """Whether a word is in the code."""
    return heap_missing(choice, word) is None


def heap_missing(choice, word):
    """The least heap of a word that is not chosen, or None."""
    for heap in heaps_of(choice.letters, word):
        if heap not in choice:
            return heap
    return None


def check_in_code(choice, word):
    """The word itself, or BadWord(0), or NotInCode(heap)."""
    missing = heap_missing(choice, word)
    if missing is not None:
        raise NotInCode(missing)
    return word


def own_words(choice):
    """The words of the chosen heaps, in the order of these."""
    return tuple([heap_word(choice.letters, heap) for heap in choice])


def word_at(choice, number):
    """The word with a number: bit k tells whether the k-th chosen heap is one of its heaps."""
    check_number(number, (1 << choice.size) - 1)
    return word_of(choice.letters, [heap for index, heap in enumerate(choice) if number >> index & 1])


def number_of(choice, word):
    """The number of a word of the code."""
    heaps = heaps_of(choice.letters, check_in_code(choice, word))
    return sum([1 << index for index, heap in enumerate(choice) if heap in heaps])


def all_words(choice):
    """Yield all words of the code in the order of their numbers."""
    if choice.size > MOST_LISTED_SIZE:
        raise TooMany(MOST_LISTED_SIZE)
    for number in range(1 << choice.size):
        yield word_at(choice, number)


def renamed_choice(choice, order):
    """The choice of the renamed heaps."""
    order = check_order(choice.letters, order)
    return Choice(choice.letters, [renamed_heap(heap, order) for heap in choice])


class Choice:
    """A number of letters and a set of chosen heaps."""

    def __init__(self, letters, heaps):
        if not is_whole(letters, 1, MOST_LETTERS):
            raise BadChoice(0, "letters")
        try:
            chosen = check_heaps(letters, heaps)
        except BadHeap as error:
            raise BadChoice(error.index, "heap") from None
        self.letters = letters
        self.heaps = chosen

    @property
    def size(self):
        """How many heaps are chosen."""
        return len(self.heaps)

    @property
    def top_size(self):
        """The greatest number of letters of a chosen heap, -1 if none is chosen."""
        return max([count_ones(heap) for heap in self.heaps], default=-1)

    def __contains__(self, heap):
        return is_whole(heap, 0, all_letters(self.letters)) and heap in self.heaps

    def __iter__(self):
        return iter(self.heaps)

    def __eq__(self, other):
        return isinstance(other, Choice) and self.letters == other.letters and self.heaps == other.heaps

    def with_heap(self, heap):
        """The choice with this heap, too."""
        return Choice(self.letters, (*self.heaps, check_heap(self.letters, heap)))

    def without_heap(self, heap):
        """The choice without this heap."""
        check_heap(self.letters, heap)
        return Choice(self.letters, [chosen for chosen in self.heaps if chosen != heap])

    def joined(self, other):
        """The choice of the heaps that are in either."""
        check_same(self.letters, other.letters)
        return Choice(self.letters, self.heaps + other.heaps)

    def common(self, other):
        """The choice of the heaps that are in both."""
        check_same(self.letters, other.letters)
        return Choice(self.letters, [heap for heap in self.heaps if heap in other])
