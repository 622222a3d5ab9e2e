"""Edits of choices, and goals that choices meet or do not meet."""

from lowerwords.choices import holds, renamed_choice
from lowerwords.errors import BadEdit, BadGoal, BadPlaces
from lowerwords.falling import is_falling
from lowerwords.groups import group_size
from lowerwords.heaps import all_letters, check_letters, check_places, is_whole
from lowerwords.keeping import kept_by
from lowerwords.leasts import least_weight
from lowerwords.losses import told_lost
from lowerwords.rests import within_rest
from lowerwords.substitutions import Substitution
from lowerwords.words import full_word

MOST_EDITS = 50
MOST_GOALS = 10
MOST_MEMBERS = 1000000000


def check_edits(letters, edits):
    """The edits as a tuple of tuples, or BadEdit(index)."""
    check_letters(letters)
    if not isinstance(edits, (list, tuple)) or len(edits) > MOST_EDITS:
        raise BadEdit(0)
    for index, edit in enumerate(edits):
        if not _is_edit(letters, edit):
            raise BadEdit(index)
    return tuple([tuple(edit) for edit in edits])


def _is_edit(letters, edit):
    """Whether a thing is a sequence of a tag and the heap or letter that it asks for."""
    if not isinstance(edit, (list, tuple)) or len(edit) != 2:
        return False
    tag, thing = edit
    if tag == "swap":
        return is_whole(thing, 0, letters - 2)
    return tag in ("add", "drop") and is_whole(thing, 0, all_letters(letters))


def choice_after(choice, edits):
    """The choice behind all edits, made one after another."""
    after = choice
    for edit in check_edits(choice.letters, edits):
        after = edited_choice(after, edit)
    return after


def edited_choice(choice, edit):
    """The choice behind one edit that is checked already."""
    tag, thing = edit
    if tag == "add":
        return choice.with_heap(thing)
    if tag == "drop":
        return choice.without_heap(thing)
    return renamed_choice(choice, swap_order(choice.letters, thing))


def swap_order(letters, letter):
    """The order that exchanges a letter and the next higher one."""
    order = list(range(letters))
    order[letter] = letter + 1
    order[letter + 1] = letter
    return tuple(order)


def check_goals(letters, goals):
    """The goals as a tuple of tuples, places ascending without doubles, or BadGoal(index)."""
    check_letters(letters)
    if not isinstance(goals, (list, tuple)) or len(goals) > MOST_GOALS:
        raise BadGoal(0)
    found = []
    for index, goal in enumerate(goals):
        checked = _checked_goal(letters, goal)
        if checked is None:
            raise BadGoal(index)
        found.append(checked)
    return tuple(found)


def _checked_goal(letters, goal):
    """The goal as a tuple, places ascending without doubles, or None if it is none."""
    if not isinstance(goal, (list, tuple)) or len(goal) not in (1, 2):
        return None
    tag = goal[0]
    if len(goal) == 1:
        return (tag,) if tag in ("falling", "within") else None
    thing = goal[1]
    if tag == "told":
        places = _checked_places(letters, thing)
        return None if places is None else (tag, places)
    return (tag, thing) if _is_told_thing(letters, tag, thing) else None


def _checked_places(letters, places):
    """The places of a sequence, ascending without doubles, or None if it is none."""
    try:
        return check_places(letters, places)
    except BadPlaces:
        return None


def _is_told_thing(letters, tag, thing):
    """Whether a goal with this tag, other than "told", can have this thing behind the tag."""
    if tag == "size":
        return is_whole(thing, 0, 1 << letters)
    if tag == "weight":
        return is_whole(thing, 1, 1 << letters)
    if tag == "holds":
        return is_whole(thing, 0, full_word(letters))
    if tag == "members":
        return is_whole(thing, 1, MOST_MEMBERS)
    return tag == "kept" and isinstance(thing, Substitution) and thing.letters == letters


def first_unmet(choice, goals):
    """The index of the first goal that the choice does not meet, or None."""
    for index, goal in enumerate(check_goals(choice.letters, goals)):
        if not _meets(choice, goal):
            return index
    return None


def _meets(choice, goal):
    """Whether the choice meets a goal that is checked already."""
    tag = goal[0]
    if tag == "falling":
        return is_falling(choice)
    if tag == "within":
        return within_rest(choice) is None
    thing = goal[1]
    if tag == "size":
        return choice.size >= thing
    if tag == "weight":
        return choice.size > 0 and least_weight(choice) >= thing
    if tag == "holds":
        return holds(choice, thing)
    if tag == "kept":
        return kept_by(choice, thing) is None
    if tag == "told":
        return told_lost(choice, thing) is None
    return is_falling(choice) and group_size(choice) >= thing
