"""Looks: the least words of the rest code of a falling choice, and what they let by."""

from lowerwords.choices import Choice
from lowerwords.falling import check_falling, closure_of
from lowerwords.heaps import parity_of
from lowerwords.leasts import all_least, top_heaps
from lowerwords.rests import rest_of
from lowerwords.words import check_word


def looks_of(choice):
    """The least words of the rest code of a falling choice, in their order."""
    rest = _falling_rest(choice)
    if rest.size == 0:
        return ()
    return tuple(all_least(rest))


def _falling_rest(choice):
    """The rest choice of a falling choice, or NotClosed(heap, missing), or NotFalling(heap, missing)."""
    return rest_of(check_falling(choice))


def failed_look(choice, word):
    """None if a word meets all looks of a falling choice evenly, else Fails(look)."""
    looks = looks_of(choice)
    check_word(choice.letters, word)
    for look in looks:
        if parity_of(look & word) == 1:
            return Fails(look)
    return None


def passing_choice(choice):
    """The choice whose code has just the words that meet all looks evenly."""
    rest = _falling_rest(choice)
    # The looks make the code of all heaps below heaps of top size; what passes them is the rest code of that one.
    return rest_of(closure_of(Choice(rest.letters, top_heaps(rest))))


def looks_gap(choice):
    """The least heap that is not chosen and whose word meets all looks evenly, or None."""
    for heap in passing_choice(choice):
        if heap not in choice:
            return heap
    return None


class Fails:
    """The first look that a word does not meet evenly."""

    def __init__(self, look):
        self.look = look

    def __eq__(self, other):
        return isinstance(other, Fails) and self.look == other.look
