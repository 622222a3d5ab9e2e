"""The texts of heaps and of choices."""

from lowerwords.choices import Choice
from lowerwords.errors import BadText
from lowerwords.heaps import all_heaps, check_letters, letters_of

BEGINNINGS = ("1:", "2:", "3:", "4:", "5:")


def heap_text(heap):
    """The text of a heap: its letters as ascending digits, or "-" for heap 0."""
    return "".join([str(letter) for letter in letters_of(heap)]) or "-"


def heap_from_text(letters, text):
    """The heap with this text, or BadText(0)."""
    check_letters(letters)
    heap = heap_told(letters, text)
    if heap is None:
        raise BadText(0)
    return heap


def heap_told(letters, text):
    """The heap of these letters with this text, or None."""
    if not isinstance(text, str):
        return None
    for heap in all_heaps(letters):
        if heap_text(heap) == text:
            return heap
    return None


def cut_text(text):
    """The number of letters at the beginning of a text, and (index, piece) for each piece behind it."""
    if not isinstance(text, str) or text[:2] not in BEGINNINGS:
        raise BadText(0)
    if text[2:3] not in ("", " "):
        raise BadText(2)
    pieces = []
    at = 3
    # Without a blank there is no piece, not even an empty one.
    for piece in text[2:].split(" ")[1:]:
        pieces.append((at, piece))
        at += len(piece) + 1
    return int(text[0]), pieces


def choice_text(choice):
    """The text of a choice."""
    return f"{choice.letters}:" + "".join([" " + heap_text(heap) for heap in choice])


def choice_from_text(text):
    """The choice with this text, or BadText(index)."""
    letters, pieces = cut_text(text)
    heaps = []
    for at, piece in pieces:
        heap = heap_told(letters, piece)
        if heap is None or (heaps and heap <= heaps[-1]):
            raise BadText(at)
        heaps.append(heap)
    return Choice(letters, heaps)
