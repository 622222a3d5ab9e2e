"""Reading words with lost places and wrong ones."""

from lowerwords.heaps import check_number
from lowerwords.leasts import least_weight
from lowerwords.readings import Read, read_votes
from lowerwords.words import check_word, full_word, marked_word, places_of, weight_of


def read_lossy(choice, word, lost):
    """The word of the code that a word with lost places is read as: Lossy(word, wrong, sure), or None."""
    letters = choice.letters
    check_word(letters, word)
    blank = marked_word(letters, lost)
    kept = full_word(letters) ^ blank
    found = []
    for filled in (word & kept, word | blank):
        result = read_votes(choice, filled)
        if isinstance(result, Read):
            found.append(result.word)
    if found == []:
        return None
    # Of two words with equally many wrong places the first one is taken.
    told = min(found, key=lambda own: weight_of(letters, (own ^ word) & kept))
    wrong = places_of(letters, (told ^ word) & kept)
    return Lossy(told, wrong, len(wrong) <= sure_wrong(choice, weight_of(letters, blank)))


def sure_wrong(choice, many):
    """The greatest number of wrong places that is sure beside so many lost ones, -1 if there is none."""
    places = 1 << choice.letters
    check_number(many, places)
    if choice.size == 0:
        return places
    return max((least_weight(choice) - many - 1) // 2, -1)


class Lossy:
    """The word that is read, its wrong places that are not lost, and whether no other word can be meant."""

    def __init__(self, word, wrong, sure):
        self.word = word
        self.wrong = wrong
        self.sure = sure

    def __eq__(self, other):
        return (
            isinstance(other, Lossy)
            and self.word == other.word
            and self.wrong == other.wrong
            and self.sure == other.sure
        )
