"""Products of choices, their powers, and quotients."""

from lowerwords.choices import Choice, check_same, holds
from lowerwords.falling import check_closed
from lowerwords.heaps import all_heaps, check_heap, check_number
from lowerwords.words import check_word, heap_word

MOST_TIMES = 8


def product_of(choice, other):
    """The choice of all unions of a chosen heap of choice and a chosen heap of other."""
    check_same(choice.letters, other.letters)
    return Choice(choice.letters, [heap | further for heap in choice for further in other])


def power_of(choice, times):
    """The product of so many factors that all are this choice."""
    check_number(times, MOST_TIMES)
    found = Choice(choice.letters, (0,))
    for _ in range(times):
        found = product_of(found, choice)
    return found


def union_pair(choice, other, heap):
    """The first chosen heaps of choice and of other whose union is this heap, or None."""
    check_same(choice.letters, other.letters)
    check_heap(choice.letters, heap)
    for one in choice:
        for further in other:
            if one | further == heap:
                return one, further
    return None


def kept_in(choice, other, word):
    """None if the products of a word with the words of other's code lie in choice's code, else Escapes(heap, word)."""
    check_same(choice.letters, other.letters)
    check_word(choice.letters, word)
    # The products with the words of heaps have all the other ones as their sums.
    for heap in other:
        made = word & heap_word(choice.letters, heap)
        if not holds(choice, made):
            return Escapes(heap, made)
    return None


def quotient_of(choice, other):
    """The closed choice of all heaps whose unions with the chosen heaps of other, closed too, are chosen in choice."""
    check_closed(choice)
    check_same(choice.letters, other.letters)
    check_closed(other)
    return Choice(choice.letters, [heap for heap in all_heaps(choice.letters) if _unions_chosen(choice, other, heap)])


def _unions_chosen(choice, other, heap):
    """Whether the unions of a heap and each chosen heap of other are chosen in choice."""
    return all([heap | further in choice for further in other])


class Escapes:
    """The word of a chosen heap has a product that is not in the code: this word."""

    def __init__(self, heap, word):
        self.heap = heap
        self.word = word

    def __eq__(self, other):
        return isinstance(other, Escapes) and self.heap == other.heap and self.word == other.word
