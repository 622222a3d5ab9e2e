"""Ballots of heaps, and what words vote for them."""

from lowerwords.heaps import all_heaps, check_heap, letters_of
from lowerwords.words import check_word, heaps_of, marked_word


def ballots_of(letters, heap):
    """The ballots of a heap, each an ascending tuple of places, in the order of their first places."""
    firsts = _first_places(letters, check_heap(letters, heap))
    inside = [place for place in all_heaps(letters) if place | heap == heap]
    return tuple([tuple([first | place for place in inside]) for first in firsts])


def _first_places(letters, heap):
    """The first places of the ballots, those without a letter of the heap, ascending."""
    return [place for place in all_heaps(letters) if place & heap == 0]


def votes_for(letters, word, heap):
    """The votes of a word for a heap, in the order of the ballots."""
    check_word(letters, word)
    firsts = _first_places(letters, check_heap(letters, heap))
    sums = word
    for letter in letters_of(heap):
        # At the places without letters of the heap the sum of all values of the ballot comes together.
        sums = sums ^ (sums >> (1 << letter))
    return tuple([sums >> first & 1 for first in firsts])


def spoilt_votes(letters, places, heap):
    """How many ballots of a heap hold an odd number of the places."""
    return sum(votes_for(letters, marked_word(letters, places), heap))


def split_votes(letters, word, heap):
    """The least heap of the word with all letters of the heap and a further one, or None."""
    found = heaps_of(letters, word)
    check_heap(letters, heap)
    for other in found:
        if other != heap and other | heap == other:
            return other
    return None
