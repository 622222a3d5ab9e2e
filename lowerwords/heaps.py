"""Letters, heaps of letters, and the checks of single things and sequences."""

from lowerwords.errors import BadBit, BadHeap, BadLetter, BadLetters, BadNumber, BadPlaces

MOST_LETTERS = 5


def is_whole(thing, low, high):
    """Whether a thing is a whole number from low to high."""
    # A bool is an int to Python, but it is no number here.
    return isinstance(thing, int) and not isinstance(thing, bool) and low <= thing <= high


def check_letters(letters):
    """The number of letters itself, or BadLetters()."""
    if not is_whole(letters, 1, MOST_LETTERS):
        raise BadLetters()
    return letters


def check_letter(letters, letter):
    """The letter itself, or BadLetter()."""
    check_letters(letters)
    if not is_whole(letter, 0, letters - 1):
        raise BadLetter()
    return letter


def check_bit(bit):
    """The bit itself, or BadBit()."""
    if not is_whole(bit, 0, 1):
        raise BadBit()
    return bit


def check_number(number, most):
    """The number itself, or BadNumber(most)."""
    if not is_whole(number, 0, most):
        raise BadNumber(most)
    return number


def check_heap(letters, heap):
    """The heap itself, or BadHeap(0)."""
    if not is_whole(heap, 0, all_letters(letters)):
        raise BadHeap(0)
    return heap


def check_heaps(letters, heaps):
    """The heaps of a sequence, ascending without duplicates, or BadHeap(index)."""
    bad = _first_bad(all_letters(letters), heaps)
    if bad is not None:
        raise BadHeap(bad)
    return tuple(sorted(set(heaps)))


def check_places(letters, places):
    """The places of a sequence, ascending without duplicates, or BadPlaces(index)."""
    # The places have the same numbers as the heaps: one bit for each letter.
    bad = _first_bad(all_letters(letters), places)
    if bad is not None:
        raise BadPlaces(bad)
    return tuple(sorted(set(places)))


def _first_bad(most, things):
    """The index of the first thing that is no whole number from 0 to most, 0 for no sequence, else None."""
    if not isinstance(things, (list, tuple)):
        return 0
    for index, thing in enumerate(things):
        if not is_whole(thing, 0, most):
            return index
    return None


def letters_of(heap):
    """The letters of a heap of at most five letters, ascending."""
    check_heap(MOST_LETTERS, heap)
    return tuple([letter for letter in range(MOST_LETTERS) if heap >> letter & 1])


def count_ones(number):
    """How many bits of a whole number from 0, of any size, are 1."""
    digits = f"{number:b}"
    return digits.count("1")


def parity_of(number):
    """1 if an odd number of the bits are 1, else 0."""
    return count_ones(number) & 1


def all_letters(letters):
    """The heap of all letters."""
    return (1 << check_letters(letters)) - 1


def complement_of(letters, heap):
    """The heap of the letters that are not in a heap."""
    return all_letters(letters) ^ check_heap(letters, heap)


def all_heaps(letters):
    """All heaps, ascending."""
    return tuple(range(all_letters(letters) + 1))
