"""mends.py: [10.1], [10.9], [10.10], [10.14]."""

import itertools
import unittest

from lowerwords.choices import Choice
from lowerwords.edits import choice_after, first_unmet
from lowerwords.errors import BadEdit, BadGoal, TooMany
from lowerwords.mends import find_mends, find_spoilers
from lowerwords.substitutions import one_step
from tests.support import NO_SEQUENCES, SIZES, Case, chance, some_heap_sets, subset_sets
from tests.test_edits import all_edits, heaps_after


def all_index_sets(many):
    """All sets of indexes, shorter ones first, equally long ones ascending."""
    return [part for size in range(many + 1) for part in itertools.combinations(range(many), size)]


def met_behind(choice, pool, goals):
    """For each set of indexes whether all goals are met behind its edits."""
    return {
        part: first_unmet(Choice(choice.letters, heaps_after(choice.heaps, [pool[index] for index in part])), goals)
        is None
        for part in all_index_sets(len(pool))
    }


def least_of(met, due):
    """The sets that are met or not, as is due, while each smaller set within them is not so."""
    return tuple(
        part for part in met
        if met[part] == due
        and all(met[other] != due for other in met if set(other) < set(part))
    )


def some_goals(source, letters):
    """A few goals that edits can change."""
    places = 2 ** letters
    every = [("size", source.randrange(places + 1)), ("weight", 2 ** source.randrange(letters + 1)), ("falling",)]
    every += [("holds", source.getrandbits(places)), ("holds", 0), ("within",)]
    every += [("kept", one_step(letters, letters - 1))]
    every += [("told", source.sample(range(places), source.randrange(places))), ("members", 2 ** source.randrange(20))]
    return source.sample(every, source.randrange(4))


class Mends(Case):
    def test_against_all_sets_of_indexes(self):
        source = chance(590)
        kinds = set()
        for letters in SIZES:
            sets = list(subset_sets(letters)) * 4 if letters < 3 else some_heap_sets(letters, 12, 591)
            for heaps in sets:
                choice = Choice(letters, heaps)
                pool = [source.choice(all_edits(letters)) for _ in range(source.choice((0, 1, 2, 3, 3, 4, 5, 6)))]
                goals = some_goals(source, letters)
                met = met_behind(choice, pool, goals)
                mends = find_mends(choice, pool, goals)
                spoilers = find_spoilers(choice, tuple([list(edit) for edit in pool]), tuple(goals))
                self.assert_same(mends, least_of(met, True))
                self.assert_same(spoilers, least_of(met, False))
                kinds.add((min(len(mends), 2), min(len(spoilers), 2)))
                # Each set that meets the goals has a mend within it, and no mend lies within another one.
                for found, due in ((mends, True), (spoilers, False)):
                    for part in met:
                        if met[part] == due:
                            self.assertTrue([one for one in found if set(one) <= set(part)])
                    for one in found:
                        self.assertFalse([other for other in found if set(other) < set(one)])
                if met[()]:
                    self.assertEqual(mends, ((),))
                else:
                    self.assertEqual(spoilers, ((),))
        self.assertLessEqual({(0, 1), (1, 0), (1, 1), (2, 1), (1, 2)}, kinds)

    def test_shorter_ones_first_then_ascending(self):
        choice = Choice(3, ())
        pool = [("add", 1), ("add", 2), ("add", 4), ("add", 7), ("drop", 0), ("add", 6)]
        goals = [("size", 3)]
        due = tuple(itertools.combinations((0, 1, 2, 3, 5), 3))
        self.assert_same(find_mends(choice, pool, goals), due)
        pool = [("swap", 0), ("add", 2), ("add", 1), ("add", 4)]
        goals = [("holds", 170 ^ 204)]
        self.assert_same(find_mends(choice, pool, goals), ((1, 2),))
        self.assert_same(find_mends(Choice(3, (1,)), pool, goals), ((1,), (0, 2)))
        self.assert_same(find_spoilers(Choice(3, (1, 2)), [("swap", 1), ("drop", 2), ("drop", 7), ("drop", 1)], goals),
                         ((0,), (1,), (3,)))

    def test_the_order_of_the_pool_counts(self):
        choice = Choice(2, (1,))
        self.assert_same(find_mends(choice, [("swap", 0), ("add", 1)], [("size", 2)]), ((0, 1),))
        self.assert_same(find_mends(choice, [("add", 1), ("swap", 0)], [("size", 2)]), ())

    def test_the_same_edit_twice(self):
        choice = Choice(3, (0, 1, 2))
        pool = [("add", 4), ("add", 3), ("add", 4), ("swap", 1), ("swap", 1)]
        met = met_behind(choice, pool, [("holds", 240)])
        self.assert_same(find_mends(choice, pool, [("holds", 240)]), least_of(met, True))
        self.assert_same(find_mends(choice, pool, [("holds", 240)]), ((0,), (2,), (3,), (4,)))
        self.assert_same(find_spoilers(choice, [("swap", 1), ("swap", 1)], [("falling",)]), ((0,), (1,)))
        self.assert_same(find_mends(Choice(3, (0, 1, 4)), [("swap", 1), ("swap", 1)], [("falling",)]), ((0,), (1,)))

    def test_no_edits_and_no_goals(self):
        for letters in SIZES:
            for heaps in ((), (0,), (1,)):
                choice = Choice(letters, heaps)
                self.assert_same(find_mends(choice, (), ()), ((),))
                self.assert_same(find_spoilers(choice, [], []), ())
                self.assert_same(find_mends(choice, [("add", 0)], ()), ((),))
                self.assert_same(find_mends(choice, (), [("size", 2)]), ())
                self.assert_same(find_spoilers(choice, (), [("size", 2)]), ((),))

    def test_the_example(self):
        choice = Choice(3, (0, 1, 2))
        pool = (("add", 4), ("add", 3), ("add", 5))
        self.assert_same(find_mends(choice, pool, (("size", 4), ("falling",))), ((0,), (1,)))
        self.assert_same(find_spoilers(choice, pool, (("size", 4), ("falling",))), ((),))

    def test_six_edits_of_five_letters(self):
        choice = Choice(5, list(range(16)))
        pool = [("add", heap) for heap in (16, 17, 18, 20, 24)] + [("drop", 15)]
        goals = [("size", 17), ("falling",), ("members", 2)]
        self.assert_same(find_mends(choice, pool, goals), least_of(met_behind(choice, pool, goals), True))
        self.assertEqual(choice_after(choice, pool[:1]).size, 17)


class Errors(Case):
    def test_all_in_their_order(self):
        edit = ("add", 0)
        for call in (find_mends, find_spoilers):
            for letters in SIZES:
                choice = Choice(letters, (1,))
                for goals in ((), None, [None]):
                    for bad in NO_SEQUENCES:
                        self.assert_error(BadEdit, {"index": 0}, call, choice, bad, goals)
                    for index in (0, 3, 5, 6, 40):
                        pool = [edit] * index + [("add", -1), None]
                        self.assert_error(BadEdit, {"index": index}, call, choice, pool, goals)
                    for pool in ([edit] * 51, (edit,) * 60, [edit] * 50 + [None], [None] * 51):
                        self.assert_error(BadEdit, {"index": 0}, call, choice, pool, goals)
                    for pool in ([edit] * 7, (edit,) * 8, [edit] * 50):
                        self.assert_error(TooMany, {"most": 6}, call, choice, pool, goals)
                for pool in ((), [edit], [edit] * 6):
                    for bad in NO_SEQUENCES + ([("falling",)] * 11, "falling"):
                        self.assert_error(BadGoal, {"index": 0}, call, choice, pool, bad)
                    step = one_step(letters % 5 + 1, 0)
                    for bad in (None, (), ("size",), ("size", -1), ("falling", 1), ("kept", step)):
                        self.assert_error(BadGoal, {"index": 1}, call, choice, pool, [("falling",), bad, None])
            self.assert_error(BadEdit, {"index": 0}, call, Choice(1, ()), [("swap", 0)], ())


if __name__ == "__main__":
    unittest.main()
