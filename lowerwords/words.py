"""Words as whole numbers, their heaps, their places, and renamed letters."""

from lowerwords.errors import BadOrder, BadPlaces, BadWord
from lowerwords.heaps import (
    all_heaps,
    all_letters,
    check_heap,
    check_heaps,
    check_letters,
    check_places,
    count_ones,
    is_whole,
    parity_of,
)

# At index i stands the word of five letters that is 1 at the places without letter i.
# Its lower part is that word for fewer letters.
WITHOUT_LETTER = (0x55555555, 0x33333333, 0x0F0F0F0F, 0x00FF00FF, 0x0000FFFF)


def check_word(letters, word):
    """The word itself, or BadWord(0)."""
    if not is_whole(word, 0, full_word(letters)):
        raise BadWord(0)
    return word


def full_word(letters):
    """The word that is 1 everywhere."""
    return (1 << (1 << check_letters(letters))) - 1


def word_of(letters, heaps):
    """The sum of the words of a set of heaps."""
    return _stepped(letters, _marks(check_heaps(letters, heaps)))


def heap_word(letters, heap):
    """The word of a heap: 1 at the places that hold all its letters."""
    return _stepped(letters, 1 << check_heap(letters, heap))


def heaps_of(letters, word):
    """The heaps whose words have the word as their sum, ascending."""
    return places_of(letters, _stepped(letters, check_word(letters, word)))


def _stepped(letters, number):
    """For each letter, at each place with it the value at the place without it is added."""
    for letter in range(letters):
        number = number ^ ((number & WITHOUT_LETTER[letter]) << (1 << letter))
    return number


def _marks(places):
    """The number whose bits at these unlike places are 1."""
    return sum([1 << place for place in places])


def places_of(letters, word):
    """The places at which a word is 1, ascending."""
    check_word(letters, word)
    return tuple([place for place in all_heaps(letters) if word >> place & 1])


def marked_word(letters, places):
    """The word that is 1 at exactly these places."""
    return _marks(check_places(letters, places))


def weight_of(letters, word):
    """How many places of a word are 1."""
    return count_ones(check_word(letters, word))


def value_at(letters, word, place):
    """The value of a word at a place."""
    check_word(letters, word)
    if not is_whole(place, 0, all_letters(letters)):
        raise BadPlaces(0)
    return word >> place & 1


def meets_evenly(letters, word, other):
    """Whether the product of two words has even weight."""
    return parity_of(check_word(letters, word) & check_word(letters, other)) == 0


def check_order(letters, order):
    """A sequence of all letters, each once, as a tuple, or BadOrder()."""
    check_letters(letters)
    if not isinstance(order, (list, tuple)) or len(order) != letters:
        raise BadOrder()
    for index, letter in enumerate(order):
        if not is_whole(letter, 0, letters - 1) or letter in order[:index]:
            raise BadOrder()
    return tuple(order)


def renamed_heap(heap, order):
    """The heap, or place, with letter i renamed to order[i]."""
    return sum([1 << letter for old, letter in enumerate(order) if heap >> old & 1])


def renamed_word(letters, word, order):
    """The word that has at each renamed place the value that the word has at the place."""
    places = places_of(letters, word)
    order = check_order(letters, order)
    return _marks([renamed_heap(place, order) for place in places])
