"""The texts of words."""

from lowerwords.errors import BadText
from lowerwords.heaps import all_heaps, check_letters
from lowerwords.words import check_word, marked_word


def word_text(letters, word):
    """The values of a word as signs "0" and "1", the value at place 0 first."""
    check_word(letters, word)
    return "".join([str(word >> place & 1) for place in all_heaps(letters)])


def word_from_text(letters, text):
    """The word with this text, or BadText(index)."""
    many = 1 << check_letters(letters)
    if not isinstance(text, str):
        raise BadText(0)
    for index, sign in enumerate(text):
        if sign not in ("0", "1") or index == many:
            raise BadText(index)
    if len(text) < many:
        raise BadText(len(text))
    return marked_word(letters, [place for place, sign in enumerate(text) if sign == "1"])
