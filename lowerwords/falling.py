"""Closed and falling choices, and the least ones with given heaps."""

from lowerwords.below import descents_of, heaps_left, is_below
from lowerwords.choices import Choice
from lowerwords.errors import NotClosed, NotFalling
from lowerwords.heaps import all_heaps


def closed_gap(choice):
    """The first chosen heap and the least one missing that comes of it without a letter, or None."""
    return _gap(choice, heaps_left)


def first_gap(choice):
    """The first chosen heap and the least one missing that comes of it by a descent, or None."""
    return _gap(choice, descents_of)


def _gap(choice, made_of):
    """The first chosen heap and the first of the heaps made of it that is not chosen, or None."""
    for heap in choice:
        for made in made_of(heap):
            if made not in choice:
                return heap, made
    return None


def is_closed(choice):
    """Whether with a heap every heap is chosen that comes of it by leaving out letters."""
    return closed_gap(choice) is None


def is_falling(choice):
    """Whether with a heap every heap below it is chosen."""
    return first_gap(choice) is None


def check_closed(choice):
    """The choice itself, or NotClosed(heap, missing)."""
    gap = closed_gap(choice)
    if gap is not None:
        heap, missing = gap
        raise NotClosed(heap, missing)
    return choice


def check_falling(choice):
    """The choice itself, or NotClosed(heap, missing), or NotFalling(heap, missing)."""
    check_closed(choice)
    gap = first_gap(choice)
    if gap is not None:
        heap, missing = gap
        raise NotFalling(heap, missing)
    return choice


def closed_by(choice):
    """The least closed choice with all chosen heaps."""
    return _filled(choice, heaps_left)


def closure_of(choice):
    """The least falling choice with all chosen heaps."""
    return _filled(choice, descents_of)


def _filled(choice, made_of):
    """The choice with all heaps made of its heaps, of those made, and so on."""
    found = list(choice.heaps)
    # What is made of a heap is a smaller number, so it is met later.
    for heap in reversed(all_heaps(choice.letters)):
        if heap in found:
            found.extend(made_of(heap))
    return Choice(choice.letters, found)


def heads_of(choice):
    """The chosen heaps that are below no other chosen heap, ascending."""
    return tuple([heap for heap in choice if not _is_under(heap, choice)])


def _is_under(heap, choice):
    """Whether a heap is below another heap of the choice."""
    return any([is_below(heap, other) for other in choice if other != heap])
