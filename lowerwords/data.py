"""Bits written into words of a code, and the places at which they can stand."""

from lowerwords.choices import check_in_code
from lowerwords.errors import BadBits, NotData
from lowerwords.heaps import all_heaps, check_places, is_whole
from lowerwords.losses import fill_lost, told_lost
from lowerwords.reduced import sums_within
from lowerwords.rests import rest_rows
from lowerwords.words import marked_word


def check_bits(bits, many):
    """The bits, so many as are due, as a tuple, or BadBits(index)."""
    if not isinstance(bits, (list, tuple)):
        raise BadBits(0)
    if len(bits) != many:
        # Too few are told by their number, too many by the number that is due.
        raise BadBits(min(len(bits), many))
    for index, bit in enumerate(bits):
        if not is_whole(bit, 0, 1):
            raise BadBits(index)
    return tuple(bits)


def data_places(choice):
    """The places whose numbers are the chosen heaps, ascending."""
    return choice.heaps


def write_data(choice, bits):
    """The word of the code with these bits at data_places, the first bit at the lowest place."""
    return _word_with(choice, data_places(choice), check_bits(bits, choice.size))


def _word_with(choice, places, bits):
    """The one word of the code with these bits at ascending data places."""
    word = sum([bit << place for place, bit in zip(places, bits)])
    return fill_lost(choice, word, _other_places(choice, places)).word


def _other_places(choice, places):
    """The places that are not among these, ascending."""
    return [place for place in all_heaps(choice.letters) if place not in places]


def bits_of(choice, word):
    """The values of a word of the code at data_places."""
    check_in_code(choice, word)
    return tuple([word >> place & 1 for place in data_places(choice)])


def free_gap(choice, places):
    """None if the values of words of the code at these places can be anything, else Dependent(word)."""
    rows = sums_within(rest_rows(choice), marked_word(choice.letters, places))
    return None if rows == () else Dependent(rows[-1])


def data_gap(choice, places):
    """None if just one word of the code has any given bits at these places, else Hidden(word) or Dependent(word)."""
    places = check_places(choice.letters, places)
    hidden = told_lost(choice, _other_places(choice, places))
    return free_gap(choice, places) if hidden is None else hidden


def write_at(choice, places, bits):
    """The word of the code with these bits at data places, the first bit at the lowest place."""
    places = check_places(choice.letters, places)
    if data_gap(choice, places) is not None:
        raise NotData()
    return _word_with(choice, places, check_bits(bits, len(places)))


class Dependent:
    """A word of the rest code: each word of the code is 1 at an even number of its places."""

    def __init__(self, word):
        self.word = word

    def __eq__(self, other):
        return isinstance(other, Dependent) and self.word == other.word
