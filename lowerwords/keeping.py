"""Which substitutions keep a code."""

from lowerwords.choices import check_same, holds
from lowerwords.falling import first_gap
from lowerwords.heaps import letters_of
from lowerwords.substitutions import one_step
from lowerwords.words import heap_word


def kept_by(choice, substitution):
    """None if the substitution keeps the code, else Leaves(heap, word)."""
    check_same(choice.letters, substitution.letters)
    for heap in choice:
        word = substitution.moved(heap_word(choice.letters, heap))
        if not holds(choice, word):
            return Leaves(heap, word)
    return None


def kept_by_all(choice):
    """None if every triangular substitution keeps the code, else LeavesBy(substitution, heap, word)."""
    gap = first_gap(choice)
    if gap is None:
        return None
    heap, missing = gap
    # A descent changes the letter that goes and, if another one comes for it, a lower one.
    changed = letters_of(heap ^ missing)
    lower = changed[0] if len(changed) == 2 else None
    step = one_step(choice.letters, changed[-1], lower)
    return LeavesBy(step, heap, step.moved(heap_word(choice.letters, heap)))


class Leaves:
    """The word of a chosen heap is moved to a word that is not in the code."""

    def __init__(self, heap, word):
        self.heap = heap
        self.word = word

    def __eq__(self, other):
        return isinstance(other, Leaves) and self.heap == other.heap and self.word == other.word


class LeavesBy:
    """A substitution moves the word of a chosen heap to a word that is not in the code."""

    def __init__(self, substitution, heap, word):
        self.substitution = substitution
        self.heap = heap
        self.word = word

    def __eq__(self, other):
        return (
            isinstance(other, LeavesBy)
            and self.substitution == other.substitution
            and self.heap == other.heap
            and self.word == other.word
        )
