"""The least weight of a code, and the least words of a falling choice by number."""

from lowerwords.choices import check_some, holds
from lowerwords.errors import NotLeast
from lowerwords.falling import check_falling
from lowerwords.flats import flat_word, forms_of, leading_heap
from lowerwords.heaps import check_heap, check_number, count_ones, letters_of
from lowerwords.words import weight_of


def least_weight(choice):
    """The least weight of the words of the code but 0."""
    check_some(choice)
    return 1 << (choice.letters - choice.top_size)


def is_least(choice, word):
    """Whether a word is in the code and has its least weight."""
    least = least_weight(choice)
    return weight_of(choice.letters, word) == least and holds(choice, word)


def check_least(choice, word):
    """The word itself, or BadWord(0), or NotLeast()."""
    if not is_least(choice, word):
        raise NotLeast()
    return word


def check_some_falling(choice):
    """The choice itself, or EmptyChoice(), NotClosed(heap, missing) or NotFalling(heap, missing)."""
    return check_falling(check_some(choice))


def top_heaps(choice):
    """The chosen heaps of top size, ascending."""
    top = choice.top_size
    return tuple([heap for heap in choice if count_ones(heap) == top])


def under_count(letters, heap):
    """How many flats have this leading heap."""
    check_heap(letters, heap)
    return 1 << sum([len(_free_letters(heap, leading)) + 1 for leading in letters_of(heap)])


def _free_letters(heap, leading):
    """The letters below the leading letter that are not in the leading heap, ascending."""
    return [letter for letter in range(leading) if not heap >> letter & 1]


def least_count(choice):
    """How many least words a falling choice has."""
    check_some_falling(choice)
    return sum([under_count(choice.letters, heap) for heap in top_heaps(choice)])


def least_forms(choice, number):
    """The reduced forms of the least word with a number."""
    bits = check_number(number, least_count(choice) - 1)
    heaps = top_heaps(choice)
    index = 0
    while bits >= under_count(choice.letters, heaps[index]):
        bits = bits - under_count(choice.letters, heaps[index])
        index = index + 1
    return _forms_under(heaps[index], bits)


def _forms_under(heap, bits):
    """The reduced forms with a leading heap and with these free bits, the first one lowest."""
    forms = []
    for leading in letters_of(heap):
        lot = 1 << leading
        for letter in _free_letters(heap, leading):
            lot = lot | ((bits & 1) << letter)
            bits = bits >> 1
        forms.append((lot, bits & 1))
        bits = bits >> 1
    return tuple(forms)


def _free_bits(heap, forms):
    """The free bits of the reduced forms with a leading heap."""
    bits = []
    for leading, (lot, bit) in zip(letters_of(heap), forms):
        bits.extend([lot >> letter & 1 for letter in _free_letters(heap, leading)])
        bits.append(bit)
    return sum([bit << index for index, bit in enumerate(bits)])


def least_at(choice, number):
    """The least word with a number."""
    return flat_word(choice.letters, least_forms(choice, number))


def least_number(choice, word):
    """The number of a least word."""
    check_some_falling(choice)
    check_least(choice, word)
    letters = choice.letters
    forms = forms_of(letters, word)
    leading = leading_heap(letters, forms)
    ahead = [under_count(letters, heap) for heap in top_heaps(choice) if heap < leading]
    return sum(ahead) + _free_bits(leading, forms)


def all_least(choice):
    """Yield all least words of a falling choice, numbers ascending."""
    check_some_falling(choice)
    for heap in top_heaps(choice):
        for bits in range(under_count(choice.letters, heap)):
            yield flat_word(choice.letters, _forms_under(heap, bits))
