"""Reduced rows of words, and what they tell of the sums of the words."""

from lowerwords.errors import BadWord
from lowerwords.heaps import all_heaps, is_whole
from lowerwords.words import full_word

MOST_WORDS = 5000
GREATEST_WORD = 0xFFFFFFFF


def check_words(words):
    """The words as a tuple, in the given order, or BadWord(index)."""
    return _checked(words, GREATEST_WORD)


def _checked(words, greatest):
    """A sequence of whole numbers from 0 to greatest as a tuple, or BadWord(index)."""
    if not isinstance(words, (list, tuple)) or len(words) > MOST_WORDS:
        raise BadWord(0)
    for index, word in enumerate(words):
        if not is_whole(word, 0, greatest):
            raise BadWord(index)
    return tuple(words)


def _check_single(word):
    """The word itself, or BadWord(0)."""
    if not is_whole(word, 0, GREATEST_WORD):
        raise BadWord(0)
    return word


def reduced_rows(words):
    """The reduced rows of words, descending."""
    return _reduced(check_words(words))


def _reduced(numbers):
    """The reduced rows of whole numbers of any size, descending."""
    kept = _kept_rows(numbers)
    rows = []
    for top in sorted(kept):
        row, _ = kept[top]
        # The lower rows are reduced already, so none brings back a top bit that another one took off.
        rows.append(_taken_off(rows, row))
    return tuple(rows[::-1])


def _kept_rows(numbers):
    """For each top bit that sums have, as its bit length, a sum with it and the numbers in the sum, as bits."""
    kept = {}
    for index, number in enumerate(numbers):
        rest, used = _walked_down(kept, number, 1 << index)
        # A number without a rest is a sum of numbers ahead of it.
        if rest != 0:
            kept[rest.bit_length()] = (rest, used)
    return kept


def _walked_down(kept, number, used):
    """What is left of a number when the kept rows are taken off at its top again and again, and what was used."""
    while number.bit_length() in kept:
        row, others = kept[number.bit_length()]
        number = number ^ row
        used = used ^ others
    return number, used


def _taken_off(rows, number):
    """The number with each row taken off whose top bit is 1 in it."""
    for row in rows:
        if number >> _top_bit(row) & 1:
            number = number ^ row
    return number


def _top_bit(row):
    """The place of the highest bit of a number other than 0."""
    return row.bit_length() - 1


def span_size(words):
    """How many reduced rows there are."""
    return len(reduced_rows(words))


def remainder_of(words, word):
    """The least sum of the word and a sum of words."""
    rows = reduced_rows(words)
    return _taken_off(rows, _check_single(word))


def in_span(words, word):
    """Whether the word is a sum of words."""
    return remainder_of(words, word) == 0


def sums_to(words, word):
    """The numbers of the words whose sum is the word, none of them a sum of words ahead of it, or None."""
    words = check_words(words)
    rest, used = _walked_down(_kept_rows(words), _check_single(word), 0)
    if rest != 0:
        return None
    return tuple([index for index in range(len(words)) if used >> index & 1])


def sums_within(words, allowed):
    """The reduced rows of all sums of words that are 0 wherever allowed is 0."""
    rows = reduced_rows(words)
    outside = GREATEST_WORD ^ _check_single(allowed)
    # The part of each row that is not allowed is put above the row, so it goes first when the rows are reduced.
    above = GREATEST_WORD + 1
    pairs = _reduced([(row & outside) * above + row for row in rows])
    return tuple([pair for pair in pairs if pair < above])


def even_rows(letters, words):
    """The reduced rows of all words of these letters whose product with each of words has even weight."""
    rows = _reduced(_checked(words, full_word(letters)))
    tops = [_top_bit(row) for row in rows]
    found = []
    for place in all_heaps(letters):
        if place not in tops:
            # Each row that has the place is met there and at its own top bit, which no other row has.
            met = [1 << top for top, row in zip(tops, rows) if row >> place & 1]
            found.append((1 << place) + sum(met))
    return _reduced(found)
