"""Forms, and the flats of all places at which some forms are 1."""

from lowerwords.errors import BadForms, BadPlaces
from lowerwords.heaps import all_heaps, all_letters, check_letters, check_places, is_whole, letters_of, parity_of
from lowerwords.reduced import reduced_rows
from lowerwords.words import full_word, places_of, word_of


def check_forms(letters, forms):
    """The forms as a tuple of tuples, in the given order, or BadForms(index, what)."""
    check_letters(letters)
    if not isinstance(forms, (list, tuple)):
        raise BadForms(0, "form")
    sums = [0]
    for index, form in enumerate(forms):
        if not _is_form(letters, form):
            raise BadForms(index, "form")
        if form[0] in sums:
            raise BadForms(index, "hang")
        sums = sums + [lot ^ form[0] for lot in sums]
    return tuple([tuple(form) for form in forms])


def _is_form(letters, form):
    """Whether a thing is a sequence of just a lot with a letter and a bit."""
    if not isinstance(form, (list, tuple)) or len(form) != 2:
        return False
    return is_whole(form[0], 1, all_letters(letters)) and is_whole(form[1], 0, 1)


def form_word(letters, form):
    """The word of the values of a form."""
    check_letters(letters)
    if not _is_form(letters, form):
        raise BadForms(0, "form")
    return _word_of_form(letters, form)


def _word_of_form(letters, form):
    """The word of the values of a form that is checked already."""
    lot, bit = form
    heaps = [1 << letter for letter in letters_of(lot)]
    if bit == 1:
        # The word of heap 0 is 1 everywhere.
        heaps.append(0)
    return word_of(letters, heaps)


def reduced_forms(letters, forms):
    """The one row of reduced forms with the same flat."""
    return _forms_of_rows([_row_of(lot, bit ^ 1) for lot, bit in check_forms(letters, forms)])


def _row_of(lot, parity):
    """A row that says: on the flat the letters of the lot have this parity. Sums of such rows are such rows."""
    return 2 * lot + parity


def _forms_of_rows(rows):
    """The reduced forms of the flat of which the rows tell."""
    return tuple([(row >> 1, (row & 1) ^ 1) for row in reversed(reduced_rows(rows))])


def flat_word(letters, forms):
    """The word that is 1 at just the places of the flat."""
    word = full_word(letters)
    for form in check_forms(letters, forms):
        word = word & _word_of_form(letters, form)
    return word


def leading_heap(letters, forms):
    """The heap of the leading letters of the reduced forms."""
    return sum([1 << (lot.bit_length() - 1) for lot, bit in reduced_forms(letters, forms)])


def forms_of(letters, word):
    """The reduced forms of the flat of just the places at which the word is 1, or None."""
    places = places_of(letters, word)
    if places == ():
        return None
    forms = flat_over(letters, places)
    # A flat of r forms has 2 ** (letters - r) places.
    return forms if len(places) == 1 << (letters - len(forms)) else None


def flat_over(letters, places):
    """The reduced forms of the least flat that holds all these places."""
    places = check_places(letters, places)
    if places == ():
        raise BadPlaces(0)
    first = places[0]
    changes = reduced_rows([place ^ first for place in places])
    lots = [lot for lot in all_heaps(letters) if lot != 0 and _is_even(lot, changes)]
    return _forms_of_rows([_row_of(lot, parity_of(lot & first)) for lot in lots])


def _is_even(lot, changes):
    """Whether none of the changes of places changes the parity of the letters of the lot."""
    return all([parity_of(lot & change) == 0 for change in changes])
