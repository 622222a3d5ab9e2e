"""Reading words with wrong places by votes."""

from math import comb

from lowerwords.choices import holds
from lowerwords.counts import listed_words
from lowerwords.errors import NoneNear
from lowerwords.heaps import check_number, count_ones
from lowerwords.leasts import least_weight, top_heaps
from lowerwords.votes import spoilt_votes, votes_for
from lowerwords.words import check_word, heap_word, marked_word, places_of


def reads_sure(choice):
    """The greatest number of wrong places that is below half the least weight; all places for the empty choice."""
    if choice.size == 0:
        return 1 << choice.letters
    return (least_weight(choice) - 1) // 2


def _check_most(choice, most):
    """The number of wrong places that are let, or BadNumber(reads_sure)."""
    sure = reads_sure(choice)
    return sure if most is None else check_number(most, sure)


def _heaps_by_steps(choice):
    """The chosen heaps, those with more letters first, else ascending."""
    # Sorting leaves heaps with equally many letters in their order, also in reverse.
    return sorted(choice.heaps, key=count_ones, reverse=True)


def read_steps(choice, word):
    """Yield a Voted for each step of reading a word."""
    letters = choice.letters
    rest = check_word(letters, word)
    for heap in _heaps_by_steps(choice):
        votes = votes_for(letters, rest, heap)
        bit = _bit_of(votes)
        if bit == 1:
            rest = rest ^ heap_word(letters, heap)
        yield Voted(heap, votes, bit, rest)
        if bit is None:
            return


def _bit_of(votes):
    """The bit that more of the votes are, or None if equally many are 1 and 0."""
    ones = sum(votes)
    if 2 * ones == len(votes):
        return None
    return 1 if 2 * ones > len(votes) else 0


def read_votes(choice, word, *, most=None):
    """What the votes make of a word: Read or Far, both (word, wrong, against), or Tie(heap)."""
    check_word(choice.letters, word)
    let = _check_most(choice, most)
    rest = word
    against = []
    for step in read_steps(choice, word):
        if step.bit is None:
            return Tie(step.heap)
        rest = step.rest
        against.append(step.votes.count(1 - step.bit))
    # The rest is the sum of the word and the word built, so it is 1 where these differ.
    wrong = places_of(choice.letters, rest)
    if len(wrong) > let:
        return Far(word ^ rest, wrong, tuple(against))
    return Read(word ^ rest, wrong, tuple(against))


def told_fault(choice, word, claimed):
    """None if the votes for a word tell the claimed one, else "code" or Outvoted(heap, spoilt)."""
    letters = choice.letters
    check_word(letters, word)
    if not holds(choice, claimed):
        return "code"
    wrong = places_of(letters, word ^ claimed)
    for heap in _heaps_by_steps(choice):
        spoilt = spoilt_votes(letters, wrong, heap)
        if 2 * spoilt >= 1 << (letters - count_ones(heap)):
            return Outvoted(heap, spoilt)
    return None


def read_count(choice, *, most=None):
    """How many of all words are read."""
    let = _check_most(choice, most)
    places = 1 << choice.letters
    return sum([comb(places, many) for many in range(let + 1)]) << choice.size


def nearest_words(choice, word):
    """The words of the code that differ from a word in the fewest places: Nearest(distance, words)."""
    words = listed_words(choice)
    check_word(choice.letters, word)
    distances = [count_ones(word ^ own) for own in words]
    least = min(distances)
    return Nearest(least, tuple(sorted([own for own, far in zip(words, distances) if far == least])))


def two_near(choice, many=0):
    """A word, with lost places, that is as far from one word of the code as from another."""
    least = least_weight(choice)
    check_number(many, least)
    if (least - many) & 1 == 1:
        raise NoneNear()
    letters = choice.letters
    other = heap_word(letters, top_heaps(choice)[0])
    places = places_of(letters, other)
    half = many + (least - many) // 2
    return TwoNear(marked_word(letters, places[many:half]), places[:many], 0, other)


class Voted:
    """A step of reading: its heap, the votes, the bit (None for a tie), and the rest after the step."""

    def __init__(self, heap, votes, bit, rest):
        self.heap = heap
        self.votes = votes
        self.bit = bit
        self.rest = rest

    def __eq__(self, other):
        return (
            isinstance(other, Voted)
            and self.heap == other.heap
            and self.votes == other.votes
            and self.bit == other.bit
            and self.rest == other.rest
        )


class Read:
    """The word that is read, the wrong places, and how many votes of each step are against it."""

    def __init__(self, word, wrong, against):
        self.word = word
        self.wrong = wrong
        self.against = against

    def __eq__(self, other):
        return (
            isinstance(other, Read)
            and self.word == other.word
            and self.wrong == other.wrong
            and self.against == other.against
        )


class Far:
    """The word that the votes tell, with more wrong places than are let."""

    def __init__(self, word, wrong, against):
        self.word = word
        self.wrong = wrong
        self.against = against

    def __eq__(self, other):
        return (
            isinstance(other, Far)
            and self.word == other.word
            and self.wrong == other.wrong
            and self.against == other.against
        )


class Tie:
    """Equally many votes for this heap are 1 and 0."""

    def __init__(self, heap):
        self.heap = heap

    def __eq__(self, other):
        return isinstance(other, Tie) and self.heap == other.heap


class Outvoted:
    """Half or more of the votes for this heap are spoilt: so many."""

    def __init__(self, heap, spoilt):
        self.heap = heap
        self.spoilt = spoilt

    def __eq__(self, other):
        return isinstance(other, Outvoted) and self.heap == other.heap and self.spoilt == other.spoilt


class Nearest:
    """The least number of places in which a word of the code differs, and all words that differ in so many."""

    def __init__(self, distance, words):
        self.distance = distance
        self.words = words

    def __eq__(self, other):
        return isinstance(other, Nearest) and self.distance == other.distance and self.words == other.words


class TwoNear:
    """A word and lost places off which two words of the code differ from it in equally many places."""

    def __init__(self, word, lost, one, other):
        self.word = word
        self.lost = lost
        self.one = one
        self.other = other

    def __eq__(self, other):
        return (
            isinstance(other, TwoNear)
            and self.word == other.word
            and self.lost == other.lost
            and self.one == other.one
            and self.other == other.other
        )
