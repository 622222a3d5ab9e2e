"""What several tests share: things that are no numbers, and slow but plain ways to the same results."""

import functools
import random
import unittest

from lowerwords.errors import WordError

SIZES = (1, 2, 3, 4, 5)
NO_NUMBERS = (True, False, 1.0, 0.0, "1", "", b"1", None, [], (), [0], {}, {0}, 1j, object())
BAD_SIZES = NO_NUMBERS + (0, 6, -1, 10 ** 30)
NO_SEQUENCES = ("0", "", "01", b"01", None, True, 0, 1.0, {0}, {0: 0}, range(2), iter([0]), frozenset([0]))


class Case(unittest.TestCase):
    """A test case that can ask for an error of this package with all its attributes."""

    def assert_error(self, error, told, call, *things, **named):
        """The call raises exactly this error, with exactly these attributes."""
        with self.assertRaises(WordError) as caught:
            call(*things, **named)
        self.assertIs(caught.exception.__class__, error, (call, things))
        self.assertEqual(vars(caught.exception), told, (call, things))
        for name, value in told.items():
            self.assertIs(getattr(caught.exception, name).__class__, value.__class__, (call, things))

    def assert_same(self, one, other, why=None):
        """The two are equal and of one kind, items included (1 is not True, a tuple is no list)."""
        self.assertEqual(repr(one), repr(other), why)

    def assert_alike(self, one, other):
        """The two objects are equal by == and !=, which give True and False."""
        self.assertIs(one == other, True)
        self.assertIs(other == one, True)
        self.assertIs(one != other, False)

    def assert_unlike(self, one, other):
        """The two objects are unlike by == and !=."""
        self.assertIs(one == other, False)
        self.assertIs(other == one, False)
        self.assertIs(one != other, True)


    def assert_result(self, made, names, others=()):
        """The class keeps what it is given under these names, checks nothing, and compares by all of them."""
        things = [object(), [1], None, {}][:len(names)]
        for result in (made(*things), made(**dict(zip(names, things)))):
            self.assertEqual(list(vars(result)), list(names))
            for name, thing in zip(names, things):
                self.assertIs(getattr(result, name), thing)
        for wrong in (things[:-1], things + [0]):
            with self.assertRaises(TypeError):
                made(*wrong)
        numbers = list(range(len(names)))
        one = made(*numbers)
        self.assert_alike(one, made(*numbers))
        for index in range(len(names)):
            changed = list(numbers)
            changed[index] = 9
            self.assert_unlike(one, made(*changed))
        for other in (tuple(numbers), numbers, None, 0, *[other(*numbers) for other in others]):
            self.assert_unlike(one, other)


def chance(seed):
    """A source of numbers that is the same in each run."""
    return random.Random(seed)


def letter_set(heap):
    """The letters of a heap as a set."""
    return {letter for letter in range(5) if heap // 2 ** letter % 2 == 1}


def heap_number(letters):
    """The heap of a set of letters."""
    return sum(2 ** letter for letter in letters)


@functools.lru_cache(maxsize=None)
def word_by_places(letters, heap):
    """The word of a heap, place by place."""
    return sum(2 ** place for place in range(2 ** letters) if letter_set(heap) <= letter_set(place))


def sum_by_heaps(letters, heaps):
    """The sum of the words of a set of heaps."""
    word = 0
    for heap in set(heaps):
        word ^= word_by_places(letters, heap)
    return word


def code_of(letters, heaps):
    """All words of a code, as a set."""
    words = {0}
    for heap in set(heaps):
        own = word_by_places(letters, heap)
        words |= {word ^ own for word in words}
    return words


def some_words(letters, many, seed):
    """All words of few letters, many of more letters; the outermost ones are among them."""
    if letters <= 3:
        return list(range(2 ** 2 ** letters))
    source = chance(seed)
    full = 2 ** 2 ** letters - 1
    return [0, 1, full, full - 1] + [source.randrange(full + 1) for _ in range(many)]


def some_heap_sets(letters, many, seed):
    """All sets of heaps of few letters, many of more letters, as ascending tuples."""
    heaps = range(2 ** letters)
    if letters <= 2:
        numbers = range(2 ** 2 ** letters)
    else:
        source = chance(seed)
        numbers = [0, 2 ** 2 ** letters - 1] + [source.getrandbits(2 ** letters) for _ in range(many)]
        # Sets of few heaps, which chance alone would hardly give.
        numbers += [2 ** source.choice(heaps) | 2 ** source.choice(heaps) for _ in range(many)]
    return [tuple(heap for heap in heaps if number >> heap & 1) for number in numbers]


def descents_by_sets(heap):
    """The heaps that one descent makes of a heap, as a set, straight from the words of the document."""
    found = set()
    letters = letter_set(heap)
    for letter in letters:
        rest = letters - {letter}
        found.add(heap_number(rest))
        for lower in range(letter):
            if lower not in letters:
                found.add(heap_number(rest | {lower}))
    return found


def all_below_by_descents(heap):
    """All heaps below a heap, as a set, by descent after descent."""
    found = {heap}
    new = [heap]
    while new:
        for made in descents_by_sets(new.pop()):
            if made not in found:
                found.add(made)
                new.append(made)
    return found


def all_within(heap):
    """All heaps that come of a heap by leaving out letters, as a set."""
    return {part for part in range(heap + 1) if letter_set(part) <= letter_set(heap)}


def all_sums(words):
    """All sums of some of the words, as a set."""
    sums = {0}
    for word in words:
        sums |= {word ^ other for other in sums}
    return sums


def weight(number):
    """How many bits of a number are 1."""
    return bin(number).count("1")


def rows_by_sums(sums):
    """The reduced rows of a set of all sums: those with a top bit and otherwise no bit that is the top bit of a sum."""
    tops = sum({1 << (word.bit_length() - 1) for word in sums if word})
    rows = [word for word in sums if weight(word & tops) == 1 and (word & tops).bit_length() == word.bit_length()]
    return tuple(sorted(rows, reverse=True))


def falling_sets(letters):
    """All sets of heaps of falling choices, as ascending tuples, the empty one first."""
    found = [()]
    for heaps in found:
        for heap in range(2 ** letters):
            if heap not in heaps and descents_by_sets(heap) <= set(heaps):
                new = tuple(sorted(heaps + (heap,)))
                if new not in found:
                    found.append(new)
    return found


def is_closed_set(heaps):
    """Whether with a heap every heap is there that comes of it by leaving out letters."""
    return all(all_within(heap) <= set(heaps) for heap in heaps)


def is_falling_set(heaps):
    """Whether with a heap every heap below it is there."""
    return all(descents_by_sets(heap) <= set(heaps) for heap in heaps)


def subset_sets(letters):
    """All sets of heaps of these letters, as ascending tuples."""
    for number in range(2 ** 2 ** letters):
        yield tuple(heap for heap in range(2 ** letters) if number >> heap & 1)
