"""Rest codes: the words whose product with each word of a code has even weight."""

from lowerwords.choices import Choice, own_words
from lowerwords.falling import check_closed, closed_by
from lowerwords.heaps import all_heaps, all_letters, complement_of, parity_of
from lowerwords.reduced import even_rows
from lowerwords.words import check_word, heaps_of


def rest_rows(choice):
    """The reduced rows of the rest code of any choice."""
    return even_rows(choice.letters, own_words(choice))


def rest_of(choice):
    """The choice whose code is the rest code of a closed choice."""
    check_closed(choice)
    letters = choice.letters
    return Choice(letters, [heap for heap in all_heaps(letters) if complement_of(letters, heap) not in choice])


def rest_part(choice):
    """The choice of all heaps whose own word is in the rest code of any choice."""
    return rest_of(closed_by(choice))


def rest_gap(choice):
    """None if the rest code is a choice's code, else Strange(word, heap)."""
    # The code of the rest part lies within the rest code; they are the same if no row has a further heap.
    part = rest_part(choice)
    for row in rest_rows(choice):
        for heap in heaps_of(choice.letters, row):
            if heap not in part:
                return Strange(row, heap)
    return None


def meets_rest(choice, word):
    """None if the word is in the code, else Against(row)."""
    check_word(choice.letters, word)
    for row in rest_rows(choice):
        if parity_of(row & word) == 1:
            return Against(row)
    return None


def within_rest(choice):
    """None if the code lies within its rest code, else Pair(first, second)."""
    full = all_letters(choice.letters)
    for first in choice:
        for second in choice:
            if first <= second and first | second == full:
                return Pair(first, second)
    return None


def own_rest(choice):
    """Whether the code is its rest code."""
    return within_rest(choice) is None and 2 * choice.size == 1 << choice.letters


def shared_rows(choice):
    """The reduced rows of all words that are both in the code and in the rest code."""
    # What meets both the code and its rest code evenly lies in the rest code and in the rest of that, the code.
    return even_rows(choice.letters, [*own_words(choice), *rest_rows(choice)])


class Strange:
    """A word of the rest code, and a heap of it whose own word is not in the rest code."""

    def __init__(self, word, heap):
        self.word = word
        self.heap = heap

    def __eq__(self, other):
        return isinstance(other, Strange) and self.word == other.word and self.heap == other.heap


class Against:
    """A word of the rest code that a word outside the code does not meet evenly."""

    def __init__(self, row):
        self.row = row

    def __eq__(self, other):
        return isinstance(other, Against) and self.row == other.row


class Pair:
    """Two chosen heaps that together are all letters."""

    def __init__(self, first, second):
        self.first = first
        self.second = second

    def __eq__(self, other):
        return isinstance(other, Pair) and self.first == other.first and self.second == other.second
