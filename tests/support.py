"""What several tests share: things that are no numbers, and slow but plain ways to the same results."""

import random
import unittest

from lowerwords.errors import WordError

SIZES = (1, 2, 3, 4, 5)
NO_NUMBERS = (True, False, 1.0, 0.0, "1", "", b"1", None, [], (), [0], {}, {0}, 1j, object())
BAD_SIZES = NO_NUMBERS + (0, 6, -1, 10 ** 30)
NO_SEQUENCES = ("0", "", "01", b"01", None, True, 0, 1.0, {0}, {0: 0}, range(2), iter([0]), frozenset([0]))


class Case(unittest.TestCase):
    """A test case that can ask for an error of this package with all its attributes."""

    def assert_error(self, error, told, call, *things, **named):
        """The call raises exactly this error, with exactly these attributes."""
        with self.assertRaises(WordError) as caught:
            call(*things, **named)
        self.assertIs(caught.exception.__class__, error, (call, things))
        self.assertEqual(vars(caught.exception), told, (call, things))
        for name, value in told.items():
            self.assertIs(getattr(caught.exception, name).__class__, value.__class__, (call, things))

    def assert_same(self, one, other, why=None):
        """The two are equal and of one kind, items included (1 is not True, a tuple is no list)."""
        self.assertEqual(repr(one), repr(other), why)

    def assert_alike(self, one, other):
        """The two objects are equal by == and !=, which give True and False."""
        self.assertIs(one == other, True)
        self.assertIs(other == one, True)
        self.assertIs(one != other, False)

    def assert_unlike(self, one, other):
        """The two objects are unlike by == and !=."""
        self.assertIs(one == other, False)
        self.assertIs(other == one, False)
        self.assertIs(one != other, True)


def chance(seed):
    """A source of numbers that is the same in each run."""
    return random.Random(seed)


def letter_set(heap):
    """The letters of a heap as a set."""
    return {letter for letter in range(5) if heap // 2 ** letter % 2 == 1}


def heap_number(letters):
    """The heap of a set of letters."""
    return sum(2 ** letter for letter in letters)


def word_by_places(letters, heap):
    """The word of a heap, place by place."""
    return sum(2 ** place for place in range(2 ** letters) if letter_set(heap) <= letter_set(place))


def sum_by_heaps(letters, heaps):
    """The sum of the words of a set of heaps."""
    word = 0
    for heap in set(heaps):
        word ^= word_by_places(letters, heap)
    return word


def code_of(letters, heaps):
    """All words of a code, as a set."""
    words = {0}
    for heap in set(heaps):
        words |= {word ^ word_by_places(letters, heap) for word in words}
    return words


def some_words(letters, many, seed):
    """All words of few letters, many of more letters; the outermost ones are among them."""
    if letters <= 3:
        return list(range(2 ** 2 ** letters))
    source = chance(seed)
    full = 2 ** 2 ** letters - 1
    return [0, 1, full, full - 1] + [source.randrange(full + 1) for _ in range(many)]


def some_heap_sets(letters, many, seed):
    """All sets of heaps of few letters, many of more letters, as ascending tuples."""
    heaps = range(2 ** letters)
    if letters <= 2:
        numbers = range(2 ** 2 ** letters)
    else:
        source = chance(seed)
        numbers = [0, 2 ** 2 ** letters - 1] + [source.getrandbits(2 ** letters) for _ in range(many)]
        # Sets of few heaps, which chance alone would hardly give.
        numbers += [2 ** source.choice(heaps) | 2 ** source.choice(heaps) for _ in range(many)]
    return [tuple(heap for heap in heaps if number >> heap & 1) for number in numbers]


def descents_by_sets(heap):
    """The heaps that one descent makes of a heap, as a set, straight from the words of the document."""
    found = set()
    letters = letter_set(heap)
    for letter in letters:
        rest = letters - {letter}
        found.add(heap_number(rest))
        for lower in range(letter):
            if lower not in letters:
                found.add(heap_number(rest | {lower}))
    return found


def all_below_by_descents(heap):
    """All heaps below a heap, as a set, by descent after descent."""
    found = {heap}
    new = [heap]
    while new:
        for made in descents_by_sets(new.pop()):
            if made not in found:
                found.add(made)
                new.append(made)
    return found


def all_within(heap):
    """All heaps that come of a heap by leaving out letters, as a set."""
    return {part for part in range(heap + 1) if letter_set(part) <= letter_set(heap)}
