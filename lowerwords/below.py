"""Which heaps are below which."""

from lowerwords.heaps import MOST_LETTERS, check_heap, count_ones, letters_of


def is_below(heap, other):
    """Whether heap comes of other by zero or more descents."""
    return bar_letter(heap, other) is None


def heaps_left(heap):
    """The heaps that come of a heap by leaving out one letter, ascending."""
    return tuple(sorted([heap ^ (1 << letter) for letter in letters_of(heap)]))


def descents_of(heap):
    """The heaps that one descent makes of a heap, ascending."""
    replaced = [
        heap ^ (1 << letter) ^ (1 << lower)
        for letter in letters_of(heap)
        for lower in range(letter)
        if not heap >> lower & 1
    ]
    return tuple(sorted([*heaps_left(heap), *replaced]))


def all_below(heap):
    """All heaps below a heap, ascending, itself among them."""
    check_heap(MOST_LETTERS, heap)
    # A heap below another one is never the greater number.
    return tuple([lower for lower in range(heap + 1) if is_below(lower, heap)])


def way_down(heap, other):
    """The heaps from other down to heap, each a descent of the one before it, or None."""
    if not is_below(heap, other):
        return None
    way = [other]
    while count_ones(way[-1]) > count_ones(heap):
        way.append(way[-1] & (way[-1] - 1))
    letters = letters_of(way[-1])
    for old, new in zip(letters, letters_of(heap)):
        # The lowest letters come first, so the new letter is not in the heap yet.
        if old != new:
            way.append(way[-1] ^ (1 << old) ^ (1 << new))
    return tuple(way)


def bar_letter(heap, other):
    """The highest letter from which on heap has more letters than other, or None."""
    check_heap(MOST_LETTERS, heap)
    check_heap(MOST_LETTERS, other)
    for letter in reversed(range(MOST_LETTERS)):
        if count_ones(heap >> letter) > count_ones(other >> letter):
            return letter
    return None
