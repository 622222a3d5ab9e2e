"""edits.py: [10.6] to [10.8]."""

import unittest

from lowerwords.choices import Choice
from lowerwords.edits import check_edits, check_goals, choice_after, first_unmet
from lowerwords.errors import BadEdit, BadGoal, BadLetters
from lowerwords.falling import closure_of
from lowerwords.substitutions import Substitution, one_step
from tests.support import (
    BAD_SIZES,
    NO_NUMBERS,
    NO_SEQUENCES,
    SIZES,
    Case,
    all_below_by_descents,
    chance,
    code_of,
    letter_set,
    some_heap_sets,
    subset_sets,
    weight,
)
from tests.test_leasts import top_of
from tests.test_losses import marks


def all_edits(letters):
    """All edits of these letters."""
    heaps = range(2 ** letters)
    return (
        [("add", heap) for heap in heaps]
        + [("drop", heap) for heap in heaps]
        + [("swap", letter) for letter in range(letters - 1)]
    )


def no_edits(letters):
    """Things that are no edits of these letters."""
    bad = [("add",), ("drop",), ("swap",), (), ("add", 0, 0), ("drop", 0, 0), ("swap", 0, 0), (0, "add"), (0, 0)]
    bad += [("Add", 0), ("adds", 0), ("", 0), ("put", 0), (None, 0), (b"add", 0), (["add"], 0), (True, 0)]
    bad += [("swap", letters - 1), ("swap", -1), ("add", 2 ** letters), ("drop", 2 ** letters)]
    bad += [("add", -1), ("drop", -1)]
    bad += [(tag, thing) for tag in ("add", "drop", "swap") for thing in NO_NUMBERS]
    bad += ["add", "a0", 0, None, True, {"add": 0}, {"add", 0}, iter(("add", 0)), object()]
    return bad


def swapped(heap, letter):
    """The heap with a letter and the next one exchanged, by sets."""
    other = {letter: letter + 1, letter + 1: letter}
    return sum(2 ** other.get(one, one) for one in letter_set(heap))


def heaps_after(heaps, edits):
    """The set of heaps behind edits, as an ascending tuple."""
    found = set(heaps)
    for tag, thing in edits:
        if tag == "add":
            found.add(thing)
        elif tag == "drop":
            found.discard(thing)
        else:
            found = {swapped(heap, thing) for heap in found}
    return tuple(sorted(found))


class Edits(Case):
    def test_edits(self):
        for letters in SIZES:
            every = all_edits(letters)
            for edit in every:
                for given in ([edit], (list(edit),), [list(edit)], (edit,)):
                    self.assert_same(check_edits(letters, given), (edit,))
            for start in range(0, len(every), 50):
                self.assert_same(check_edits(letters, every[start:start + 50]), tuple(every[start:start + 50]))
            self.assert_same(check_edits(letters, []), ())
            self.assert_same(check_edits(letters, ()), ())

    def test_what_is_no_edit_at_each_index(self):
        for letters in SIZES:
            for bad in no_edits(letters):
                for index in (0, 1, 49):
                    edits = [("add", 0)] * index + [bad] + [None] * (49 - index)
                    for given in (edits, tuple(edits)):
                        self.assert_error(BadEdit, {"index": index}, check_edits, letters, given)
                        self.assert_error(BadEdit, {"index": index}, choice_after, Choice(letters, ()), given)

    def test_no_sequence_and_too_many(self):
        for letters in SIZES:
            for bad in NO_SEQUENCES + ("add", {("add", 0)}, {"add": 0}):
                self.assert_error(BadEdit, {"index": 0}, check_edits, letters, bad)
                self.assert_error(BadEdit, {"index": 0}, choice_after, Choice(letters, (1,)), bad)
            for many in (51, 52, 300):
                for edits in ([("add", 0)] * many, (("add", 0),) * many, [("add", 0)] * (many - 1) + [None]):
                    self.assert_error(BadEdit, {"index": 0}, check_edits, letters, edits)
                    self.assert_error(BadEdit, {"index": 0}, choice_after, Choice(letters, (1,)), edits)
            self.assertEqual(len(check_edits(letters, [("add", 0)] * 50)), 50)

    def test_bad_letters_come_first(self):
        for bad in BAD_SIZES:
            for edits in ((), None, [None], [("add", 0)]):
                self.assert_error(BadLetters, {}, check_edits, bad, edits)

    def test_no_swap_of_one_letter(self):
        for thing in (0, -1, 1):
            self.assert_error(BadEdit, {"index": 0}, check_edits, 1, [("swap", thing)])


class Behind(Case):
    def test_each_edit(self):
        for letters in SIZES:
            for heaps in subset_sets(letters) if letters < 3 else some_heap_sets(letters, 5, 580):
                choice = Choice(letters, heaps)
                for edit in all_edits(letters):
                    due = Choice(letters, heaps_after(heaps, [edit]))
                    self.assert_alike(choice_after(choice, [edit]), due)
                    self.assert_alike(choice_after(choice, (list(edit),)), due)
                self.assertEqual(choice.heaps, heaps)
                self.assert_alike(choice_after(choice, ()), choice)

    def test_one_after_another(self):
        source = chance(581)
        for letters in SIZES:
            every = all_edits(letters)
            for heaps in some_heap_sets(letters, 12, 582):
                for many in (2, 3, 7, 50):
                    edits = [source.choice(every) for _ in range(many)]
                    self.assert_alike(choice_after(Choice(letters, heaps), edits),
                                      Choice(letters, heaps_after(heaps, edits)))

    def test_edits_that_change_nothing(self):
        choice = Choice(3, (1, 2, 7))
        twice = [("swap", 1), ("swap", 1)]
        for edits in ([("add", 1)], [("drop", 0)], [("swap", 0)], twice, [("add", 0), ("drop", 0)]):
            self.assert_alike(choice_after(choice, edits), choice)
        self.assert_alike(choice_after(choice, [("drop", 1), ("swap", 0)]), Choice(3, (1, 7)))
        self.assert_alike(choice_after(choice, [("swap", 0), ("drop", 1)]), Choice(3, (2, 7)))

    def test_the_list_is_not_changed(self):
        edits = [["add", 1], ["swap", 0]]
        checked = check_edits(2, edits)
        choice_after(Choice(2, ()), edits)
        edits[0][1] = 3
        edits.append(["drop", 0])
        self.assert_same(checked, (("add", 1), ("swap", 0)))


def told_goals(letters):
    """Goals of these letters, and what they are told as."""
    places = 2 ** letters
    full = 2 ** places - 1
    step = one_step(letters, letters - 1)
    goals = [("size", number) for number in (0, 1, places)] + [("weight", number) for number in (1, 2, places)]
    goals += [("holds", word) for word in (0, 1, full)] + [("falling",), ("within",), ("kept", step)]
    goals += [("members", number) for number in (1, 7, 10 ** 9)]
    goals = [(goal, goal) for goal in goals]
    goals += [(("told", ()), ("told", ())), (("told", []), ("told", ())), (("told", [1, 0, 1]), ("told", (0, 1)))]
    return goals + [(("told", (places - 1, 0)), ("told", (0, places - 1)))]


def no_goals(letters):
    """Things that are no goals of these letters."""
    places = 2 ** letters
    bad = [(), ("size",), ("weight",), ("holds",), ("kept",), ("told",), ("members",), ("falling", 1), ("within", None)]
    bad += [("falling", ()), ("size", 1, 1), ("told", (), ()), ("told", 0, 1), ("kept", one_step(letters, 0), 0)]
    bad += [("Size", 1), ("", 1), (None,), (None, 1), (0, "size"), (["size"], 1), (b"falling",), ("put", 1), (True, 1)]
    bad += [("size", -1), ("size", places + 1), ("weight", 0), ("weight", -1), ("weight", places + 1)]
    bad += [("holds", -1), ("holds", 2 ** places), ("members", 0), ("members", -1), ("members", 10 ** 9 + 1)]
    bad += [(tag, thing) for tag in ("size", "weight", "holds", "members", "kept") for thing in NO_NUMBERS]
    bad += [("kept", 0), ("kept", Choice(letters, ())), ("kept", one_step(letters, 0).rows)]
    bad += [("kept", one_step(other, 0)) for other in SIZES if other != letters]
    bad += [("told", thing) for thing in NO_SEQUENCES]
    bad += [("told", [0, thing]) for thing in NO_NUMBERS + (-1, places)]
    bad += ["falling", "within", "size", 0, None, True, {"falling"}, {"size": 1}, iter(("falling",)), object()]
    return bad


def parts_of(goals):
    """Goals as text, with the rows of a substitution in its place."""
    return repr([[thing.rows if isinstance(thing, Substitution) else thing for thing in goal] for goal in goals])


class Goals(Case):
    def test_goals(self):
        for letters in SIZES:
            goals = told_goals(letters)
            for goal, due in goals:
                for given in ([goal], (goal,), [list(goal)], (list(goal),)):
                    told = check_goals(letters, given)
                    self.assertEqual(told, (due,))
                    self.assertEqual([one.__class__ for one in (told, *told)], [tuple, tuple])
                    self.assertEqual(parts_of(told), parts_of([due]))
            for start in range(len(goals) - 9):
                part = goals[start:start + 10]
                self.assertEqual(check_goals(letters, [goal for goal, _ in part]), tuple(due for _, due in part))
            self.assert_same(check_goals(letters, []), ())

    def test_what_is_no_goal_at_each_index(self):
        for letters in SIZES:
            choice = Choice(letters, ())
            for bad in no_goals(letters):
                for index in (0, 1, 9):
                    goals = [("size", 1)] * index + [bad] + [None] * (9 - index)
                    for given in (goals, tuple(goals)):
                        self.assert_error(BadGoal, {"index": index}, check_goals, letters, given)
                        self.assert_error(BadGoal, {"index": index}, first_unmet, choice, given)

    def test_no_sequence_and_too_many(self):
        for letters in SIZES:
            for bad in NO_SEQUENCES + ("falling", {("falling",)}):
                self.assert_error(BadGoal, {"index": 0}, check_goals, letters, bad)
                self.assert_error(BadGoal, {"index": 0}, first_unmet, Choice(letters, ()), bad)
            for many in (11, 12, 100):
                for goals in ([("falling",)] * many, (("falling",),) * many, [("falling",)] * (many - 1) + [None]):
                    self.assert_error(BadGoal, {"index": 0}, check_goals, letters, goals)
                    self.assert_error(BadGoal, {"index": 0}, first_unmet, Choice(letters, ()), goals)
            self.assertEqual(len(check_goals(letters, [("falling",)] * 10)), 10)

    def test_bad_letters_come_first(self):
        for bad in BAD_SIZES:
            for goals in ((), None, [None], [("falling",)]):
                self.assert_error(BadLetters, {}, check_goals, bad, goals)

    def test_the_list_is_not_changed(self):
        places = [3, 1, 3]
        goals = [["told", places], ["size", 1]]
        checked = check_goals(2, goals)
        first_unmet(Choice(2, ()), goals)
        self.assertEqual(goals, [["told", [3, 1, 3]], ["size", 1]])
        places.append(0)
        goals[1][1] = 2
        self.assert_same(checked, (("told", (1, 3)), ("size", 1)))


def keeping_all(letters, heaps):
    """How many of all substitutions of one or two letters keep the code."""
    lots = [(1,)] if letters == 1 else [(one, other) for one in (1, 2, 3) for other in (1, 2, 3) if one != other]
    code = code_of(letters, heaps)
    many = 0
    for rows in lots:
        for bits in range(2 ** letters):
            moves = Substitution(letters, [(lot, bits >> index & 1) for index, lot in enumerate(rows)])
            many += all(moves.moved(word) in code for word in code)
    return many


class Unmet(Case):
    def assert_met(self, choice, goal, met):
        """The goal is met, or not, alone and behind others that are met."""
        always = ("size", 0)
        self.assertIs(met.__class__, bool)
        for goals, index in (([goal], 0), ((always, list(goal)), 1), ([always] * 9 + [goal], 9),
                             ([goal, ("members", 10 ** 9)], 0)):
            due = None if met else index
            if len(goals) == 2 and goals[0] is goal and met:
                due = 1
            self.assert_same(first_unmet(choice, goals), due)
        return met

    def test_against_the_code(self):
        met = {}
        for letters in SIZES:
            sets = subset_sets(letters) if letters < 3 else some_heap_sets(letters, 8, 583)
            for heaps in sets:
                choice = Choice(letters, heaps)
                for goal, due in self.due_for(letters, heaps):
                    met.setdefault(goal[0], set()).add(self.assert_met(choice, goal, due))
                fallen = closure_of(Choice(letters, heaps[:2]))
                for goal, due in self.due_for(letters, fallen.heaps):
                    met.setdefault(goal[0], set()).add(self.assert_met(fallen, goal, due))
        self.assertEqual(met, {tag: {True, False} for tag in (
            "size", "weight", "holds", "falling", "kept", "told", "within", "members")})

    def due_for(self, letters, heaps):
        """Goals, and whether they are met, of the words of the code for small codes."""
        places = 2 ** letters
        full = 2 ** places - 1
        source = chance(len(heaps) + places)
        found = [(("size", number), len(heaps) >= number) for number in (0, 1, len(heaps), places)]
        found += [(("size", number), False) for number in (len(heaps) + 1,) if number <= places]
        least = 2 ** (letters - top_of(heaps)) if heaps else 0
        found += [(("weight", number), least >= number) for number in (1, least, least + 1, places)
                  if 1 <= number <= places]
        below = {below for heap in heaps for below in all_below_by_descents(heap)}
        falling = below <= set(heaps)
        found.append((("falling",), falling))
        together = {one | other for one in heaps for other in heaps}
        found.append((("within",), places - 1 not in together))
        if not falling:
            found += [(("members", number), False) for number in (1, 10 ** 9)]
        if len(heaps) > 7:
            return found
        code = code_of(letters, heaps)
        found += [(("holds", word), word in code) for word in (0, 1, full, max(code), source.randrange(full + 1))]
        lost = [source.sample(range(places), many) for many in (0, 1, places // 2, places)]
        found += [(("told", one), all(word & marks(one) != word for word in code - {0})) for one in lost]
        for letter in range(letters):
            for lower in [None, *range(letter)]:
                step = one_step(letters, letter, lower)
                found.append((("kept", step), all(step.moved(word) in code for word in code)))
        if falling and letters < 3:
            many = keeping_all(letters, heaps)
            found += [(("members", number), many >= number) for number in (1, many, many + 1, 10 ** 9)]
        return found

    def test_members_of_more_letters(self):
        choice = Choice(3, (0, 1, 2, 3, 4, 5))
        self.assert_met(choice, ("members", 192), True)
        self.assert_met(choice, ("members", 193), False)
        self.assert_met(Choice(3, (0, 2)), ("members", 1), False)
        self.assert_met(Choice(3, (1,)), ("members", 1), False)
        self.assert_met(Choice(5, ()), ("members", 319979520), True)
        self.assert_met(Choice(5, ()), ("members", 319979521), False)

    def test_the_first_one_is_told(self):
        choice = Choice(3, (0, 2))
        goals = [("size", 2), ("falling",), ("size", 3), ("within",)]
        self.assert_same(first_unmet(choice, goals), 1)
        self.assert_same(first_unmet(choice, goals[2:]), 0)
        self.assertIsNone(first_unmet(choice, goals[:1] + goals[3:]))

    def test_no_goals_are_always_met(self):
        for letters in SIZES:
            for heaps in ((), (1,), (0,)):
                self.assertIsNone(first_unmet(Choice(letters, heaps), ()))
                self.assertIsNone(first_unmet(Choice(letters, heaps), []))

    def test_the_empty_choice_has_no_weight(self):
        for letters in SIZES:
            self.assert_same(first_unmet(Choice(letters, ()), [("weight", 1)]), 0)
            self.assertIsNone(first_unmet(Choice(letters, (2 ** letters - 1,)), [("weight", 1)]))
            self.assertEqual(weight(2 ** letters - 1), letters)


if __name__ == "__main__":
    unittest.main()
