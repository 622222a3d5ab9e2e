"""Substitutions of sums of letters and bits for letters."""

from lowerwords.choices import check_same
from lowerwords.errors import BadLetter, BadPlaces, BadSubstitution, NotTriangular, TooMany
from lowerwords.heaps import (
    MOST_LETTERS,
    all_letters,
    check_letter,
    check_letters,
    check_number,
    is_whole,
    letters_of,
)
from lowerwords.words import check_word

MOST_LISTED_LETTERS = 4


def one_step(letters, letter, lower=None):
    """The step substitution of letter plus lower for letter, or of letter plus 1 if lower is None."""
    check_letter(letters, letter)
    if lower is not None and not is_whole(lower, 0, letter - 1):
        raise BadLetter()
    rows = [(1 << index, 0) for index in range(letters)]
    if lower is None:
        rows[letter] = (1 << letter, 1)
    else:
        rows[letter] = ((1 << letter) | (1 << lower), 0)
    return Substitution(letters, rows)


def all_steps(letters):
    """The tuples (letter, lower) of all step substitutions."""
    check_letters(letters)
    steps = []
    for letter in range(letters):
        steps.extend([(letter, lower) for lower in range(letter)])
        steps.append((letter, None))
    return tuple(steps)


def steps_of(substitution):
    """The tuples (letter, lower) of the step substitutions that make a triangular one."""
    steps = []
    for letter, (lot, bit) in enumerate(_triangular_rows(substitution)):
        steps.extend([(letter, lower) for lower in letters_of(lot) if lower != letter])
        if bit == 1:
            steps.append((letter, None))
    return tuple(steps)


def _triangular_rows(substitution):
    """The rows of a triangular substitution, or NotTriangular(letter)."""
    letter = _unfit_letter(substitution.rows)
    if letter is not None:
        raise NotTriangular(letter)
    return substitution.rows


def _unfit_letter(rows):
    """The least letter whose lot lacks it or has a higher one, or None."""
    for letter, row in enumerate(rows):
        if row[0] >> letter != 1:
            return letter
    return None


def _most_triangular(letters):
    """The greatest number of a triangular substitution."""
    return (1 << (letters * (letters + 1) // 2)) - 1


def triangular_at(letters, number):
    """The triangular substitution with a number."""
    check_number(number, _most_triangular(check_letters(letters)))
    rows = []
    for letter in range(letters):
        # The digit of letter i has i + 1 bits: the lowest is the row's bit, the others are lower letters.
        digit = number & ((2 << letter) - 1)
        rows.append(((digit >> 1) | (1 << letter), digit & 1))
        number = number >> (letter + 1)
    return Substitution(letters, rows)


def triangular_number(substitution):
    """The number of a triangular substitution."""
    rows = _triangular_rows(substitution)
    number = 0
    for letter in reversed(range(len(rows))):
        lot, bit = rows[letter]
        digit = 2 * (lot ^ (1 << letter)) + bit
        number = (number << (letter + 1)) + digit
    return number


def all_triangular(letters):
    """Yield all triangular substitutions by number."""
    if check_letters(letters) > MOST_LISTED_LETTERS:
        raise TooMany(MOST_LISTED_LETTERS)
    for number in range(_most_triangular(letters) + 1):
        yield triangular_at(letters, number)


def _is_row(letters, row):
    """Whether a thing is a sequence of just a lot and a bit."""
    if not isinstance(row, (list, tuple)) or len(row) != 2:
        return False
    return is_whole(row[0], 0, all_letters(letters)) and is_whole(row[1], 0, 1)


def _check_rows(letters, rows):
    """The rows as a tuple of tuples, or BadSubstitution(what, index)."""
    if not isinstance(rows, (list, tuple)) or len(rows) != letters:
        raise BadSubstitution("many", 0)
    sums = [0]
    for letter, row in enumerate(rows):
        if not _is_row(letters, row):
            raise BadSubstitution("row", letter)
        if row[0] in sums:
            raise BadSubstitution("once", letter)
        sums = sums + [lot ^ row[0] for lot in sums]
    return tuple([tuple(row) for row in rows])


def _places_led(rows):
    """The place to which place_of leads each place, in the order of the places."""
    places = [sum([bit << letter for letter, (lot, bit) in enumerate(rows)])]
    for letter in range(len(rows)):
        # A place with one letter more is led to the same place, but for the letters whose lots have it.
        change = sum([(row[0] >> letter & 1) << index for index, row in enumerate(rows)])
        places = places + [place ^ change for place in places]
    return places


def _rows_leading(letters, places):
    """The rows of the substitution that leads each place to its item of places."""
    rows = []
    for letter in range(letters):
        bit = places[0] >> letter & 1
        lot = sum([((places[1 << other] >> letter & 1) ^ bit) << other for other in range(letters)])
        rows.append((lot, bit))
    return rows


class Substitution:
    """For each letter a row (lot, bit): the letters whose sum, plus the bit, is put for it."""

    def __init__(self, letters, rows):
        if not is_whole(letters, 1, MOST_LETTERS):
            raise BadSubstitution("letters", 0)
        checked = _check_rows(letters, rows)
        self.letters = letters
        self.rows = checked

    @property
    def is_triangular(self):
        """Whether the lot of each letter has this letter, and of the others only lower ones."""
        return _unfit_letter(self.rows) is None

    def __eq__(self, other):
        return isinstance(other, Substitution) and self.letters == other.letters and self.rows == other.rows

    def place_of(self, place):
        """The place whose value of each letter is what its row makes of the place."""
        if not is_whole(place, 0, all_letters(self.letters)):
            raise BadPlaces(0)
        return _places_led(self.rows)[place]

    def moved(self, word):
        """The word whose value at each place p is the value of the word at place_of(p)."""
        check_word(self.letters, word)
        return sum([(word >> led & 1) << place for place, led in enumerate(_places_led(self.rows))])

    def after(self, other):
        """The substitution that moves each word as other does and then this one."""
        check_same(self.letters, other.letters)
        # A word moved last is looked up first: this one leads the place, then other does.
        further = _places_led(other.rows)
        places = [further[place] for place in _places_led(self.rows)]
        return Substitution(self.letters, _rows_leading(self.letters, places))

    def back(self):
        """The substitution that moves each moved word back."""
        led = _places_led(self.rows)
        places = [led.index(place) for place in range(len(led))]
        return Substitution(self.letters, _rows_leading(self.letters, places))
