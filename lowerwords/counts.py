"""Sums of least words, and how many words of a code have each weight."""

from lowerwords.below import is_below
from lowerwords.choices import MOST_LISTED_SIZE, Choice, own_words
from lowerwords.errors import NotMade, TooMany
from lowerwords.falling import closure_of
from lowerwords.flats import form_word
from lowerwords.heaps import check_heap, count_ones, is_whole, letters_of
from lowerwords.leasts import check_some_falling, is_least, top_heaps
from lowerwords.words import full_word, heap_word


def made_by_least(choice):
    """The choice whose code is made of the sums of least words."""
    check_some_falling(choice)
    return closure_of(Choice(choice.letters, top_heaps(choice)))


def unmade_heap(choice):
    """The least chosen heap whose word is no sum of least words, or None."""
    made = made_by_least(choice)
    for heap in choice:
        if heap not in made:
            return heap
    return None


def least_sum(choice, heap):
    """Unlike least words, ascending, whose sum is the heap's own word."""
    made = made_by_least(choice)
    letters = choice.letters
    if check_heap(letters, heap) not in made:
        raise NotMade(heap)
    above = [top for top in top_heaps(choice) if is_below(heap, top)]
    words = [full_word(letters)]
    for forms in _split_letters(heap, above[0]):
        factors = [form_word(letters, form) for form in forms]
        words = [word & factor for word in words for factor in factors]
    return _odd_ones(words)


def _split_letters(heap, top):
    """For each letter of top the forms, led by it, whose sum is the heap's letter that it stands above."""
    lower = letters_of(heap)[::-1]
    split = []
    for index, letter in enumerate(letters_of(top)[::-1]):
        plain = (1 << letter, 0)
        if index >= len(lower):
            # No letter of the heap is left: the form and its opposite have the sum 1.
            split.append([plain, (1 << letter, 1)])
        elif lower[index] == letter:
            split.append([plain])
        else:
            split.append([plain, ((1 << letter) | (1 << lower[index]), 0)])
    return split


def _odd_ones(words):
    """The words that stand in the list an odd number of times, ascending."""
    found = set()
    for word in words:
        if word in found:
            found.discard(word)
        else:
            found.add(word)
    return tuple(sorted(found))


def sum_fault(choice, heap, words):
    """None if the words are least words with the heap's own word as their sum, else the first tag that applies."""
    check_some_falling(choice)
    check_heap(choice.letters, heap)
    if not isinstance(words, (list, tuple)):
        return "words"
    total = 0
    for word in words:
        if not is_whole(word, 0, full_word(choice.letters)) or not is_least(choice, word):
            return "least"
        total = total ^ word
    return None if total == heap_word(choice.letters, heap) else "sum"


def weights_row(choice):
    """How many words of the code have each weight, from 0 to the number of places."""
    many = [0] * ((1 << choice.letters) + 1)
    for word in listed_words(choice):
        many[count_ones(word)] += 1
    return tuple(many)


def listed_words(choice):
    """All words of the code in the order of their numbers, or TooMany(12)."""
    if choice.size > MOST_LISTED_SIZE:
        raise TooMany(MOST_LISTED_SIZE)
    words = [0]
    for own in own_words(choice):
        words = words + [word ^ own for word in words]
    return tuple(words)
