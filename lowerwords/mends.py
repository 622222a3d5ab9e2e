"""The least sets of edits behind which all goals are met, or behind which they are not."""

from lowerwords.edits import check_edits, check_goals, choice_after, first_unmet
from lowerwords.errors import TooMany

MOST_POOLED = 6


def find_mends(choice, pool, goals):
    """The sets of indexes behind whose edits all goals are met, but behind no smaller set within them."""
    return _least_sets(choice, pool, goals, True)


def find_spoilers(choice, pool, goals):
    """The sets of indexes behind whose edits some goal is not met, but all are met behind each smaller set within."""
    return _least_sets(choice, pool, goals, False)


def _least_sets(choice, pool, goals, due):
    """The sets of indexes with all goals met or not, as is due, of which no smaller set within them is such a one."""
    edits = _check_pool(choice.letters, pool)
    goals = check_goals(choice.letters, goals)
    found = []
    for indexes in _index_sets(len(edits)):
        # Smaller sets come first. Of those that are as is due, the least ones are found already.
        if any([_lies_within(other, indexes) for other in found]):
            continue
        after = choice_after(choice, [edits[index] for index in indexes])
        if (first_unmet(after, goals) is None) == due:
            found.append(indexes)
    return tuple(found)


def _check_pool(letters, pool):
    """The edits of a pool as a tuple of tuples, or BadEdit(index), or TooMany(6)."""
    edits = check_edits(letters, pool)
    if len(edits) > MOST_POOLED:
        raise TooMany(MOST_POOLED)
    return edits


def _index_sets(many):
    """All sets of indexes below many as ascending tuples, shorter ones first, equally long ones ascending."""
    sets = [tuple([index for index in range(many) if number >> index & 1]) for number in range(1 << many)]
    return sorted(sets, key=lambda indexes: (len(indexes), indexes))


def _lies_within(indexes, others):
    """Whether all indexes are among the others."""
    return all([index in others for index in indexes])
