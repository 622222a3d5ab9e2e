"""Messages of bits in several words of a code."""

from lowerwords.choices import check_some
from lowerwords.data import bits_of, check_bits, write_data
from lowerwords.errors import BadBits, BadMessage, BadWord
from lowerwords.heaps import check_places, is_whole
from lowerwords.lossy import read_lossy
from lowerwords.words import full_word

MOST_BITS = 60
MOST_MESSAGE_WORDS = 61


def write_message(choice, bits):
    """The words of the code in which a message of at most 60 bits is written."""
    size = check_some(choice).size
    row = [*_check_message_bits(bits), 1]
    row = row + [0] * (-len(row) % size)
    return tuple([write_data(choice, row[start:start + size]) for start in range(0, len(row), size)])


def _check_message_bits(bits):
    """The bits of a message as a tuple, or BadBits(index)."""
    if not isinstance(bits, (list, tuple)):
        raise BadBits(0)
    return check_bits(bits, min(len(bits), MOST_BITS))


def message_from(choice, words, lost=()):
    """What 1 to 61 words with the same lost places tell: Message(bits, mistakes), or Broken(index, what)."""
    letters = check_some(choice).letters
    words = _check_message_words(letters, words)
    lost = check_places(letters, lost)
    bits = []
    mistakes = []
    for index, word in enumerate(words):
        told = read_lossy(choice, word, lost)
        if told is None or not told.sure:
            return Broken(index, "word")
        bits.extend(bits_of(choice, told.word))
        mistakes.append(len(told.wrong))
    if 1 not in bits[-choice.size:]:
        return Broken(len(words) - 1, "end")
    # The last 1 ends the message.
    end = len(bits) - 1 - bits[::-1].index(1)
    return Message(tuple(bits[:end]), tuple(mistakes))


def _check_message_words(letters, words):
    """The words of a message as a tuple, or BadMessage(), or BadWord(index)."""
    if not isinstance(words, (list, tuple)) or not 1 <= len(words) <= MOST_MESSAGE_WORDS:
        raise BadMessage()
    for index, word in enumerate(words):
        if not is_whole(word, 0, full_word(letters)):
            raise BadWord(index)
    return tuple(words)


class Message:
    """The bits of a message, and how many wrong places each word had."""

    def __init__(self, bits, mistakes):
        self.bits = bits
        self.mistakes = mistakes

    def __eq__(self, other):
        return isinstance(other, Message) and self.bits == other.bits and self.mistakes == other.mistakes


class Broken:
    """The word at the index cannot be read, or as the last one it does not end a message: what tells which."""

    def __init__(self, index, what):
        self.index = index
        self.what = what

    def __eq__(self, other):
        return isinstance(other, Broken) and self.index == other.index and self.what == other.what
