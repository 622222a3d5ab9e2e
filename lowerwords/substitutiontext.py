"""The texts of substitutions."""

from lowerwords.choicetext import cut_text, heap_text, heap_told
from lowerwords.errors import BadText
from lowerwords.substitutions import Substitution


def substitution_text(substitution):
    """The text of a substitution."""
    return f"{substitution.letters}:" + "".join([" " + _row_text(row) for row in substitution.rows])


def _row_text(row):
    """The text of a row: that of its lot, then "+" if its bit is 1."""
    return heap_text(row[0]) + ("+" if row[1] == 1 else "")


def substitution_from_text(text):
    """The substitution with this text, or BadText(index), or BadSubstitution("once", index)."""
    letters, pieces = cut_text(text)
    rows = []
    for at, piece in pieces:
        row = _row_told(letters, piece)
        if row is None or len(rows) == letters:
            raise BadText(at)
        rows.append(row)
    if len(rows) < letters:
        raise BadText(len(text))
    return Substitution(letters, rows)


def _row_told(letters, piece):
    """The row with this text, its lot with a letter, or None."""
    bit = 1 if piece.endswith("+") else 0
    lot = heap_told(letters, piece[:len(piece) - bit])
    # Neither no text of a heap nor the text of heap 0 is the text of such a lot.
    return (lot, bit) if lot else None
