"""All falling choices by number, and the heaps that can be added to them."""

from lowerwords.below import descents_of
from lowerwords.choices import Choice
from lowerwords.falling import check_falling
from lowerwords.heaps import all_heaps, check_number


def all_falling(letters):
    """Yield all falling choices, those with fewer heaps first, else in the order of their heaps."""
    for heaps in _falling_heaps(letters):
        yield Choice(letters, heaps)


def _falling_heaps(letters):
    """The chosen heaps of all falling choices, in the order of these."""
    every = all_heaps(letters)
    found = []
    equals = [()]
    for _ in range(len(every) + 1):
        found = found + equals
        # Each falling choice comes of one with a heap fewer, often of several.
        larger = [tuple(sorted([*heaps, heap])) for heaps in equals for heap in _next_of(every, heaps)]
        equals = sorted(set(larger))
    return found


def _next_of(every, heaps):
    """Those of every heap that can be added one alone to heaps that fall."""
    return [heap for heap in every if heap not in heaps and all([made in heaps for made in descents_of(heap)])]


def count_falling(letters):
    """How many falling choices there are."""
    return len(_falling_heaps(letters))


def falling_at(letters, number):
    """The falling choice with a number."""
    found = _falling_heaps(letters)
    return Choice(letters, found[check_number(number, len(found) - 1)])


def number_of_falling(choice):
    """The number of a falling choice."""
    check_falling(choice)
    return _falling_heaps(choice.letters).index(choice.heaps)


def next_heaps(choice):
    """The heaps that can be added one alone to a falling choice so that it stays falling, ascending."""
    check_falling(choice)
    return tuple(_next_of(all_heaps(choice.letters), choice.heaps))
