"""Lost places: which of them can be restored, and the words that fit."""

from lowerwords.choices import MOST_LISTED_SIZE, holds, own_words
from lowerwords.errors import TooMany
from lowerwords.heaps import all_heaps, check_number, parity_of
from lowerwords.leasts import all_least, least_weight, top_heaps
from lowerwords.reduced import remainder_of, sums_to, sums_within
from lowerwords.rests import rest_rows
from lowerwords.words import check_word, full_word, heap_word, marked_word, places_of


def hidden_rows(choice, lost):
    """The reduced rows of all words of the code that lie within the lost places."""
    return sums_within(own_words(choice), marked_word(choice.letters, lost))


def told_lost(choice, lost):
    """None if no word of the code but 0 lies within the lost places, else Hidden(word)."""
    rows = hidden_rows(choice, lost)
    return None if rows == () else Hidden(rows[-1])


def hidden_fault(choice, lost, word):
    """None if the word is a word of the code but 0 within the lost places, else the first tag that applies."""
    blank = marked_word(choice.letters, lost)
    if check_word(choice.letters, word) == 0:
        return "zero"
    if not holds(choice, word):
        return "code"
    return None if word & blank == word else "off"


def fill_lost(choice, word, lost):
    """The words of the code that fit: Filled(word), Many(one, other), or Clash(word) if there is none."""
    least = _least_fit(choice, word, lost)
    if least is None:
        return Clash(_least_against(choice, word, lost))
    rows = hidden_rows(choice, lost)
    # The least fit has no top bit of a row, so taking on the last row makes the next one.
    return Filled(least) if rows == () else Many(least, least ^ rows[-1])


def _kept_word(choice, lost):
    """The word that is 1 at the places that are not lost."""
    return full_word(choice.letters) ^ marked_word(choice.letters, lost)


def _least_fit(choice, word, lost):
    """The least word of the code that fits, or None."""
    check_word(choice.letters, word)
    kept = _kept_word(choice, lost)
    words = own_words(choice)
    indexes = sums_to([own & kept for own in words], word & kept)
    if indexes is None:
        return None
    found = 0
    for index in indexes:
        found = found ^ words[index]
    return remainder_of(hidden_rows(choice, lost), found)


def _least_against(choice, word, lost):
    """The least word of the rest code that is 0 at the lost places and does not meet the word evenly."""
    rows = sums_within(rest_rows(choice), _kept_word(choice, lost))
    # Any sum that meets the word oddly has such a row in it, and the last one has no top bit of another row.
    return [row for row in rows if parity_of(row & word) == 1][-1]


def fits_count(choice, word, lost):
    """How many words of the code fit."""
    if _least_fit(choice, word, lost) is None:
        return 0
    return 1 << len(hidden_rows(choice, lost))


def all_fits(choice, word, lost):
    """Yield all words of the code that fit, ascending."""
    least = _least_fit(choice, word, lost)
    rows = hidden_rows(choice, lost)
    if len(rows) > MOST_LISTED_SIZE:
        raise TooMany(MOST_LISTED_SIZE)
    if least is None:
        return
    for number in range(1 << len(rows)):
        found = least
        # The rows descend, so the last one goes with the lowest bit.
        for index, row in enumerate(rows[::-1]):
            if number >> index & 1:
                found = found ^ row
        yield found


def all_told(choice, number):
    """None if every set of so many lost places is told, else Hiding(lost, word)."""
    letters = choice.letters
    check_number(number, 1 << letters)
    if choice.size == 0 or number < least_weight(choice):
        return None
    word = heap_word(letters, top_heaps(choice)[0])
    places = places_of(letters, word)
    others = [place for place in all_heaps(letters) if place not in places]
    return Hiding(tuple(sorted([*places, *others[:number - len(places)]])), word)


def least_untold(choice):
    """Yield the smallest sets of lost places that are not told, in the order of the least words."""
    for word in all_least(choice):
        yield places_of(choice.letters, word)


def most_told(choice):
    """The greatest number of lost places of which some are told, and such places: Most(number, lost)."""
    lost = tuple([place for place in all_heaps(choice.letters) if place not in choice])
    return Most(len(lost), lost)


class Hidden:
    """A word of the code but 0 that lies within the lost places."""

    def __init__(self, word):
        self.word = word

    def __eq__(self, other):
        return isinstance(other, Hidden) and self.word == other.word


class Filled:
    """The only word of the code that fits."""

    def __init__(self, word):
        self.word = word

    def __eq__(self, other):
        return isinstance(other, Filled) and self.word == other.word


class Many:
    """The least and the second least of several words of the code that fit."""

    def __init__(self, one, other):
        self.one = one
        self.other = other

    def __eq__(self, other):
        return isinstance(other, Many) and self.one == other.one and self.other == other.other


class Clash:
    """A word of the rest code that shows that no word of the code fits."""

    def __init__(self, word):
        self.word = word

    def __eq__(self, other):
        return isinstance(other, Clash) and self.word == other.word


class Hiding:
    """Lost places that are not told, and a word of the code that lies within them."""

    def __init__(self, lost, word):
        self.lost = lost
        self.word = word

    def __eq__(self, other):
        return isinstance(other, Hiding) and self.lost == other.lost and self.word == other.word


class Most:
    """The greatest number of lost places of which some are told, and such places."""

    def __init__(self, number, lost):
        self.number = number
        self.lost = lost

    def __eq__(self, other):
        return isinstance(other, Most) and self.number == other.number and self.lost == other.lost
