"""What triangular substitutions make of words, and what members make of least words."""

from lowerwords.blocks import blocks_of
from lowerwords.errors import TooMany
from lowerwords.flats import forms_of, leading_heap
from lowerwords.heaps import check_letters, complement_of, letters_of
from lowerwords.leasts import check_least, check_some_falling, top_heaps, under_count
from lowerwords.substitutions import MOST_LISTED_LETTERS, Substitution, all_steps, one_step, triangular_at
from lowerwords.words import WITHOUT_LETTER, check_word, full_word


def orbit_of(letters, word):
    """All words that triangular substitutions make of a word, ascending."""
    _check_few_letters(letters)
    return tuple(sorted(_ways(letters, check_word(letters, word))))


def _check_few_letters(letters):
    """The number of letters itself, or BadLetters(), or TooMany(4)."""
    if check_letters(letters) > MOST_LISTED_LETTERS:
        raise TooMany(MOST_LISTED_LETTERS)
    return letters


def _ways(letters, word):
    """For each word of the orbit the word of which it was first made and the step; None for the word itself."""
    ways = {word: None}
    met = [word]
    at = 0
    # The words met grow while they are gone through, so they are taken by their index.
    while at < len(met):
        old = met[at]
        at = at + 1
        for step in all_steps(letters):
            new = _word_behind(letters, old, step)
            if new not in ways:
                ways[new] = (old, step)
                met.append(new)
    return ways


def _word_behind(letters, word, step):
    """The word that a step substitution, told as (letter, lower), makes of a word."""
    letter, lower = step
    full = full_word(letters)
    lacking = WITHOUT_LETTER[letter] & full
    width = 1 << letter
    # The values with and without the letter are exchanged, at all places or at those that have the lower letter.
    swapped = ((word & lacking) << width) | ((word >> width) & lacking)
    if lower is None:
        return swapped
    stays = WITHOUT_LETTER[lower] & full
    return (word & stays) | (swapped & (full ^ stays))


def least_of_orbit(letters, word):
    """The least word that triangular substitutions make of a word."""
    return orbit_of(letters, word)[0]


def stays_count(letters, word):
    """How many triangular substitutions leave a word as it is."""
    return (1 << len(all_steps(letters))) // len(orbit_of(letters, word))


def moves_between(letters, word, other):
    """A triangular substitution that moves word to other, or None."""
    _check_few_letters(letters)
    ways = _ways(letters, check_word(letters, word))
    if check_word(letters, other) not in ways:
        return None
    steps = []
    at = other
    while ways[at] is not None:
        at, step = ways[at]
        steps.append(step)
    found = triangular_at(letters, 0)
    for letter, lower in reversed(steps):
        found = one_step(letters, letter, lower).after(found)
    return found


def least_orbits(choice):
    """The families of leading heaps whose least words members make of one another, with how many these are."""
    check_some_falling(choice)
    blocks = blocks_of(choice)
    families = {}
    for heap in top_heaps(choice):
        families.setdefault(_letters_in_blocks(heap, blocks), []).append(heap)
    # Heaps come ascending, so a family is met first at its first heap.
    return tuple([LeastOrbit(tuple(heaps), _many_under(choice.letters, heaps)) for heaps in families.values()])


def _letters_in_blocks(heap, blocks):
    """How many letters the heap has in each block."""
    return tuple([sum([heap >> letter & 1 for letter in block]) for block in blocks])


def _many_under(letters, heaps):
    """How many flats have one of the heaps as their leading heap."""
    return sum([under_count(letters, heap) for heap in heaps])


def member_between(choice, word, other):
    """A member that moves the least word to the other least word, or None."""
    check_some_falling(choice)
    check_least(choice, word)
    check_least(choice, other)
    letters = choice.letters
    forms = forms_of(letters, word)
    other_forms = forms_of(letters, other)
    heap = leading_heap(letters, forms)
    other_heap = leading_heap(letters, other_forms)
    blocks = blocks_of(choice)
    if _letters_in_blocks(heap, blocks) != _letters_in_blocks(other_heap, blocks):
        return None
    # From the word to that of its leading heap, on to that of the other leading heap, and to the other word.
    down = _leading_to_forms(letters, forms).back()
    return _leading_to_forms(letters, other_forms).after(_order_between(letters, heap, other_heap).after(down))


def _leading_to_forms(letters, forms):
    """The triangular substitution that moves the word of the leading heap of reduced forms to that of their flat."""
    rows = [(1 << letter, 0) for letter in range(letters)]
    for lot, bit in forms:
        rows[lot.bit_length() - 1] = (lot, bit)
    return Substitution(letters, rows)


def _order_between(letters, heap, other):
    """The substitution that puts the letters of other for those of heap, and the further ones for the further ones."""
    # Both heaps have as many letters in each block, so each letter stays in its block.
    old = letters_of(heap) + letters_of(complement_of(letters, heap))
    new = letters_of(other) + letters_of(complement_of(letters, other))
    return Substitution(letters, [(1 << new[old.index(letter)], 0) for letter in range(letters)])


class LeastOrbit:
    """Leading heaps of least words that members make of one another, and how many least words have them."""

    def __init__(self, heaps, many):
        self.heaps = heaps
        self.many = many

    def __eq__(self, other):
        return isinstance(other, LeastOrbit) and self.heaps == other.heaps and self.many == other.many
