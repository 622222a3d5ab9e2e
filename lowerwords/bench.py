"""A bench: a choice that is edited, and words that stay in its code."""

from lowerwords.choices import check_in_code, heap_missing
from lowerwords.edits import check_edits, check_goals, edited_choice, first_unmet, swap_order
from lowerwords.errors import Held, NothingDone
from lowerwords.words import renamed_word


def try_edits(bench, edits, goals=()):
    """The index of the first goal that is not met behind the edits, or None; the bench stays as it is."""
    letters = bench.current.letters
    edits = check_edits(letters, edits)
    goals = check_goals(letters, goals)
    choice = bench.current
    held = bench.held
    # The edits are made on the two parts of the bench, so there is nothing to take back, whatever is raised.
    for edit in edits:
        choice, held = _behind(choice, held, edit)
    return first_unmet(choice, goals)


def _behind(choice, held, edit):
    """The choice and the held words behind an edit that is checked already, or Held(index, heap)."""
    after = edited_choice(choice, edit)
    tag, thing = edit
    if tag == "swap":
        order = swap_order(choice.letters, thing)
        return after, tuple([renamed_word(choice.letters, word, order) for word in held])
    for index, word in enumerate(held):
        heap = heap_missing(after, word)
        if heap is not None:
            raise Held(index, heap)
    return after, held


class Bench:
    """A choice, words of its code that are held, and a log of what was done."""

    def __init__(self, choice):
        self._current = choice
        self._held = ()
        self._log = ()
        self._before = ()

    @property
    def current(self):
        """The present choice."""
        return self._current

    @property
    def held(self):
        """The words put in, in the order in which they were put in."""
        return self._held

    @property
    def log(self):
        """What was done, in order: edits, and ("put", word) for each word put in."""
        return self._log

    def make(self, edit):
        """Make one edit, or raise BadEdit(0) or Held(index, heap)."""
        checked = check_edits(self._current.letters, [edit])[0]
        choice, held = _behind(self._current, self._held, checked)
        self._go_on(choice, held, checked)

    def put_in(self, word):
        """Hold a word of the code, or raise BadWord(0) or NotInCode(heap)."""
        check_in_code(self._current, word)
        self._go_on(self._current, (*self._held, word), ("put", word))

    def _go_on(self, choice, held, entry):
        """Take on this choice and these held words, and what was done in the log."""
        self._before = (*self._before, (self._current, self._held))
        self._current = choice
        self._held = held
        self._log = (*self._log, entry)

    def take_back(self):
        """Undo the last entry of the log, take it off and return it, or raise NothingDone()."""
        if self._log == ():
            raise NothingDone()
        entry = self._log[-1]
        choice, held = self._before[-1]
        self._current = choice
        self._held = held
        self._before = self._before[:-1]
        self._log = self._log[:-1]
        return entry
