"""All errors of the package."""


class WordError(ValueError):
    """An error of this package."""


class BadLetters(WordError):
    """The number of letters is no whole number from 1 to 5."""


class BadLetter(WordError):
    """The thing is no letter, or not one that may stand here."""


class BadBit(WordError):
    """The thing is no bit."""


class BadNumber(WordError):
    """The thing is no whole number from 0 to most; most is -1 if there is none."""

    def __init__(self, most):
        self.most = most


class BadHeap(WordError):
    """The thing at the index is no heap of these letters."""

    def __init__(self, index):
        self.index = index


class BadPlaces(WordError):
    """The thing at the index is no place of these letters."""

    def __init__(self, index):
        self.index = index


class BadWord(WordError):
    """The thing at the index is no word of these letters."""

    def __init__(self, index):
        self.index = index


class BadOrder(WordError):
    """The thing is no sequence of all letters, each once."""


class BadChoice(WordError):
    """A choice cannot be made: what tells the kind of thing that is wrong."""

    def __init__(self, index, what):
        self.index = index
        self.what = what


class OtherLetters(WordError):
    """The later thing has another number of letters than the one before it."""

    def __init__(self, letters):
        self.letters = letters


class EmptyChoice(WordError):
    """No heap is chosen."""


class TooMany(WordError):
    """There are more than most of the things that the function counts."""

    def __init__(self, most):
        self.most = most


class NotInCode(WordError):
    """The word is not in the code: this heap of it is not chosen."""

    def __init__(self, heap):
        self.heap = heap


class BadText(WordError):
    """The text goes wrong at the index."""

    def __init__(self, index):
        self.index = index


class BadSubstitution(WordError):
    """A substitution cannot be made: what tells the kind of thing that is wrong."""

    def __init__(self, what, index):
        self.what = what
        self.index = index


class NotTriangular(WordError):
    """The lot of the letter lacks it, or has a higher letter."""

    def __init__(self, letter):
        self.letter = letter


class NotClosed(WordError):
    """The heap is chosen, and the missing one, with a letter left out, is not."""

    def __init__(self, heap, missing):
        self.heap = heap
        self.missing = missing


class NotFalling(WordError):
    """The heap is chosen, and the missing one, a descent of it, is not."""

    def __init__(self, heap, missing):
        self.heap = heap
        self.missing = missing


class BadForms(WordError):
    """The forms go wrong at the index: what tells how."""

    def __init__(self, index, what):
        self.index = index
        self.what = what


class NotLeast(WordError):
    """The word is no least word of the code."""


class NotMade(WordError):
    """The word of the heap is no sum of least words."""

    def __init__(self, heap):
        self.heap = heap


class BadBlocks(WordError):
    """The thing at the index is no block of the letters that come next."""

    def __init__(self, index):
        self.index = index


class NotMember(WordError):
    """The lot of the letter has a letter of a higher block, far at the highest."""

    def __init__(self, letter, far):
        self.letter = letter
        self.far = far


class NoneNear(WordError):
    """No word stands halfway between the two."""


class BadBits(WordError):
    """The thing at the index is no bit, or there are too few or too many bits."""

    def __init__(self, index):
        self.index = index


class NotData(WordError):
    """The places are no data places."""


class BadMessage(WordError):
    """The thing is no sequence of as many words as a message has."""


class BadHalves(WordError):
    """The joined choice is not falling: what tells where it fails."""

    def __init__(self, what):
        self.what = what


class BadEdit(WordError):
    """The thing at the index is no edit of these letters."""

    def __init__(self, index):
        self.index = index


class BadGoal(WordError):
    """The thing at the index is no goal of these letters."""

    def __init__(self, index):
        self.index = index


class Held(WordError):
    """The held word at the index has this heap, which would not be chosen."""

    def __init__(self, index, heap):
        self.index = index
        self.heap = heap


class NothingDone(WordError):
    """There is nothing to take back."""
