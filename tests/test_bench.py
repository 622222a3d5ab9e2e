"""bench.py: [10.1], [10.11] to [10.13]."""

import unittest

from lowerwords.bench import Bench, try_edits
from lowerwords.choices import Choice, holds
from lowerwords.edits import first_unmet
from lowerwords.errors import BadEdit, BadGoal, BadWord, Held, NothingDone, NotInCode, WordError
from lowerwords.words import heaps_of
from tests.support import NO_NUMBERS, NO_SEQUENCES, SIZES, Case, chance, some_heap_sets, sum_by_heaps
from tests.test_edits import all_edits, heaps_after, no_edits, no_goals, swapped, told_goals


def shown(bench):
    """What a bench shows."""
    return bench.current.letters, bench.current.heaps, bench.held, bench.log


def choice_with(letters, source):
    """A choice that has about half of all heaps."""
    return Choice(letters, [heap for heap in range(2 ** letters) if source.randrange(2)])


def word_in(choice, source):
    """A word of the code."""
    return sum_by_heaps(choice.letters, [heap for heap in choice.heaps if source.randrange(3) == 0])


class Plain:
    """The same as a bench by other means: held words are sets of heaps, and each step back is kept whole."""

    def __init__(self, letters, heaps):
        self.letters, self.heaps, self.words, self.done, self.past = letters, set(heaps), [], [], []

    def shown(self):
        """What the bench is due to show."""
        words = tuple(sum_by_heaps(self.letters, heaps) for heaps in self.words)
        return self.letters, tuple(sorted(self.heaps)), words, tuple(self.done)

    def go_on(self, heaps, words, entry):
        """Take on heaps and words."""
        self.past.append((self.heaps, self.words))
        self.heaps, self.words = set(heaps), words
        self.done.append(entry)

    def clash_behind(self, edit):
        """(index, heap) of the first held word that the edit would leave out, or None."""
        after = heaps_after(self.heaps, [edit])
        for index, heaps in enumerate(self.words):
            if edit[0] != "swap" and not heaps <= set(after):
                return index, min(heaps - set(after))
        return None

    def make(self, edit):
        """Make an edit that does not clash."""
        words = self.words
        if edit[0] == "swap":
            words = [{swapped(heap, edit[1]) for heap in heaps} for heaps in words]
        self.go_on(heaps_after(self.heaps, [edit]), words, tuple(edit))

    def put_in(self, word):
        """Hold a word."""
        self.go_on(self.heaps, self.words + [set(heaps_of(self.letters, word))], ("put", word))

    def take_back(self):
        """Undo the last entry."""
        self.heaps, self.words = self.past.pop()
        return self.done.pop()


class Deeds(Case):
    def assert_shown(self, bench, due):
        """The bench shows what is due, all held words are in the code."""
        self.assert_same(shown(bench), due)
        for word in bench.held:
            self.assertTrue(holds(bench.current, word))

    def do_one(self, bench, plain, source, met):
        """Do one thing, by chance, to both benches; a refused one changes nothing."""
        letters = plain.letters
        kind = source.randrange(5)
        before = shown(bench)
        if kind < 3:
            edit = source.choice(all_edits(letters))
            clash = plain.clash_behind(edit)
            if clash is not None:
                self.assert_error(Held, {"index": clash[0], "heap": clash[1]}, bench.make, edit)
                self.assert_same(shown(bench), before)
                met.add("held")
                return
            self.assertIsNone(bench.make(list(edit) if kind else edit))
            plain.make(edit)
            met.add((edit[0], bool(bench.held)))
        elif kind == 3:
            word = word_in(bench.current, source) if source.randrange(4) else source.getrandbits(2 ** letters)
            outside = [heap for heap in heaps_of(letters, word) if heap not in bench.current.heaps]
            if outside:
                self.assert_error(NotInCode, {"heap": outside[0]}, bench.put_in, word)
                self.assert_same(shown(bench), before)
                met.add("outside")
                return
            self.assertIsNone(bench.put_in(word))
            plain.put_in(word)
        elif plain.done:
            self.assert_same(bench.take_back(), plain.take_back())
            met.add("back")
        else:
            self.assert_error(NothingDone, {}, bench.take_back)

    def test_rows_of_deeds_all_taken_back(self):
        source = chance(600)
        met = set()
        for letters in SIZES:
            for _ in range(12):
                choice = choice_with(letters, source)
                bench, plain = Bench(choice), Plain(letters, choice.heaps)
                self.assert_shown(bench, (letters, choice.heaps, (), ()))
                for _ in range(25):
                    self.do_one(bench, plain, source, met)
                    self.assert_shown(bench, plain.shown())
                while plain.done:
                    self.assert_same(bench.take_back(), plain.take_back())
                    self.assert_shown(bench, plain.shown())
                self.assert_shown(bench, (letters, choice.heaps, (), ()))
                self.assert_error(NothingDone, {}, bench.take_back)
                self.assert_shown(bench, (letters, choice.heaps, (), ()))
        self.assertLessEqual({"held", "outside", "back", ("add", True), ("drop", True), ("swap", True)}, met)

    def test_two_benches_side_by_side(self):
        source = chance(601)
        for letters in SIZES:
            choice = choice_with(letters, source)
            benches = [(Bench(choice), Plain(letters, choice.heaps)) for _ in range(2)]
            for _ in range(60):
                bench, plain = source.choice(benches)
                self.do_one(bench, plain, source, set())
                for one, other in benches:
                    self.assert_shown(one, other.shown())
            self.assertEqual(choice.heaps, Choice(letters, choice.heaps).heaps)

    def test_the_choice_at_first(self):
        for letters in SIZES:
            for heaps in [(), (1,)] + some_heap_sets(letters, 3, 602):
                choice = Choice(letters, heaps)
                bench = Bench(choice)
                self.assertEqual(bench.current, choice)
                self.assert_same((bench.held, bench.log), ((), ()))
                self.assert_error(NothingDone, {}, bench.take_back)

    def test_edits_that_change_nothing_are_in_the_log(self):
        bench = Bench(Choice(3, (0, 1)))
        for edit in (("add", 1), ["drop", 7], ("swap", 1), ("swap", 1)):
            bench.make(edit)
        self.assert_same(bench.log, (("add", 1), ("drop", 7), ("swap", 1), ("swap", 1)))
        self.assert_same(bench.current.heaps, (0, 1))
        self.assert_same([bench.take_back() for _ in range(4)], [("swap", 1), ("swap", 1), ("drop", 7), ("add", 1)])

    def test_a_word_may_be_held_more_than_once(self):
        bench = Bench(Choice(2, (0, 1)))
        for word in (15, 10, 15, 0):
            bench.put_in(word)
        self.assert_same(bench.held, (15, 10, 15, 0))
        self.assert_same(bench.log, (("put", 15), ("put", 10), ("put", 15), ("put", 0)))
        self.assert_error(Held, {"index": 0, "heap": 0}, bench.make, ("drop", 0))
        self.assert_error(Held, {"index": 1, "heap": 1}, bench.make, ("drop", 1))
        self.assert_same(bench.take_back(), ("put", 0))
        self.assert_same(bench.take_back(), ("put", 15))
        self.assert_same(bench.held, (15, 10))

    def test_swaps_rename_the_held_words(self):
        bench = Bench(Choice(3, (1, 4, 5, 7)))
        bench.put_in(sum_by_heaps(3, (1, 5)))
        bench.put_in(sum_by_heaps(3, (4,)))
        bench.make(("swap", 0))
        self.assert_same(bench.current.heaps, (2, 4, 6, 7))
        self.assert_same(bench.held, (sum_by_heaps(3, (2, 6)), sum_by_heaps(3, (4,))))
        bench.make(("swap", 1))
        self.assert_same(bench.held, (sum_by_heaps(3, (4, 6)), sum_by_heaps(3, (2,))))
        self.assert_error(Held, {"index": 0, "heap": 6}, bench.make, ("drop", 6))
        self.assert_error(Held, {"index": 1, "heap": 2}, bench.make, ("drop", 2))
        # Taking back the second swap gives the words held ahead of it.
        bench.put_in(sum_by_heaps(3, (7,)))
        bench.take_back()
        bench.take_back()
        self.assert_same(bench.held, (sum_by_heaps(3, (2, 6)), sum_by_heaps(3, (4,))))

    def test_lists_that_are_passed_in_are_not_kept(self):
        bench = Bench(Choice(3, (0, 1)))
        edit = ["add", 4]
        bench.make(edit)
        edit[1] = 2
        self.assert_same(bench.log, (("add", 4),))
        self.assert_same(bench.current.heaps, (0, 1, 4))

    def test_what_was_shown_stays(self):
        bench = Bench(Choice(3, (0, 1)))
        before = (bench.current, bench.held, bench.log)
        bench.put_in(255)
        bench.make(("add", 4))
        self.assert_same((before[0].heaps, *before[1:]), ((0, 1), (), ()))


class Errors(Case):
    def test_bad_edits_and_words_change_nothing(self):
        for letters in SIZES:
            choice = Choice(letters, (0,))
            bench = Bench(choice)
            bench.put_in(2 ** 2 ** letters - 1)
            before = shown(bench)
            for bad in no_edits(letters):
                self.assert_error(BadEdit, {"index": 0}, bench.make, bad)
            for bad in NO_NUMBERS + (-1, 2 ** 2 ** letters):
                self.assert_error(BadWord, {"index": 0}, bench.put_in, bad)
            self.assert_error(NotInCode, {"heap": 1}, bench.put_in, sum_by_heaps(letters, (0, 1)))
            self.assert_error(Held, {"index": 0, "heap": 0}, bench.make, ("drop", 0))
            self.assert_same(shown(bench), before)

    def test_the_first_word_and_its_least_heap(self):
        bench = Bench(Choice(3, (0, 1, 2, 3)))
        bench.put_in(sum_by_heaps(3, (0, 3)))
        bench.put_in(sum_by_heaps(3, (1, 2, 3)))
        bench.put_in(sum_by_heaps(3, (2,)))
        self.assert_error(Held, {"index": 1, "heap": 2}, bench.make, ("drop", 2))
        self.assert_error(Held, {"index": 0, "heap": 3}, bench.make, ("drop", 3))
        self.assert_error(NotInCode, {"heap": 4}, bench.put_in, sum_by_heaps(3, (0, 4, 5, 7)))

    def test_properties_are_not_set(self):
        bench = Bench(Choice(1, ()))
        for name in ("current", "held", "log"):
            with self.assertRaises(AttributeError):
                setattr(bench, name, ())


class Trying(Case):
    def trial(self, bench, edits, goals):
        """What try_edits is due to return or to raise, by making the edits one after another on another bench."""
        other = Bench(bench.current)
        for word in bench.held:
            other.put_in(word)
        for edit in edits:
            other.make(edit)
        return first_unmet(other.current, goals)

    def test_against_making_them(self):
        source = chance(603)
        met = set()
        for letters in SIZES:
            goals = [goal for goal, _ in told_goals(letters)]
            for _ in range(60):
                bench = Bench(choice_with(letters, source))
                for _ in range(source.randrange(4)):
                    bench.put_in(word_in(bench.current, source))
                if letters > 1:
                    bench.make(("swap", 0))
                before = shown(bench)
                edits = [source.choice(all_edits(letters)) for _ in range(source.randrange(8))]
                wanted = source.sample(goals, source.randrange(3))
                try:
                    due = self.trial(bench, edits, wanted)
                except WordError as error:
                    self.assert_error(Held, vars(error), try_edits, bench, edits, wanted)
                    self.assertIs(error.__class__, Held)
                    met.add("held")
                else:
                    self.assert_same(try_edits(bench, tuple([list(edit) for edit in edits]), tuple(wanted)), due)
                    met.add(due if due is None else "index")
                self.assert_same(shown(bench), before)
        self.assertEqual(met, {None, "index", "held"})

    def test_no_edits_and_no_goals(self):
        bench = Bench(Choice(3, (0, 2)))
        self.assertIsNone(try_edits(bench, ()))
        self.assertIsNone(try_edits(bench, [("add", 1)]))
        self.assert_same(try_edits(bench, (), [("falling",)]), 0)
        self.assertIsNone(try_edits(bench, [("add", 1)], goals=[("falling",)]))
        self.assert_same(shown(bench), (3, (0, 2), (), ()))

    def test_held_of_the_first_edit_that_raises_it(self):
        bench = Bench(Choice(3, (0, 1, 4)))
        bench.put_in(sum_by_heaps(3, (0, 4)))
        before = shown(bench)
        for edits, heap in (([("add", 2), ("drop", 4), ("drop", 0)], 4), ([("swap", 1), ("drop", 2)], 2),
                            ([("drop", 1), ("drop", 0), ("drop", 4)], 0)):
            self.assert_error(Held, {"index": 0, "heap": heap}, try_edits, bench, edits, [("size", 8)])
            self.assert_same(shown(bench), before)
        # The swap renames the held word, so heap 4 can go behind it.
        self.assertIsNone(try_edits(bench, [("swap", 1), ("drop", 4)], [("holds", sum_by_heaps(3, (0, 2)))]))
        self.assert_same(shown(bench), before)
        bench.take_back()
        self.assertIsNone(try_edits(bench, [("drop", 4), ("drop", 0)]))

    def test_errors_in_their_order(self):
        for letters in SIZES:
            bench = Bench(Choice(letters, (0,)))
            bench.put_in(2 ** 2 ** letters - 1)
            before = shown(bench)
            for goals in ((), None, [None]):
                for bad in NO_SEQUENCES + ([("add", 0)] * 51, "add"):
                    self.assert_error(BadEdit, {"index": 0}, try_edits, bench, bad, goals)
                for bad in no_edits(letters):
                    self.assert_error(BadEdit, {"index": 1}, try_edits, bench, [("drop", 0), bad, None], goals)
            for edits in ((), [("drop", 0)], [("add", 0)] * 50):
                for bad in NO_SEQUENCES + ([("falling",)] * 11, "falling"):
                    self.assert_error(BadGoal, {"index": 0}, try_edits, bench, edits, bad)
                for bad in no_goals(letters):
                    self.assert_error(BadGoal, {"index": 1}, try_edits, bench, edits, [("falling",), bad, None])
            self.assert_error(Held, {"index": 0, "heap": 0}, try_edits, bench, [("drop", 0)])
            self.assertIsNone(try_edits(bench, [("add", 0)] * 50))
            self.assert_same(shown(bench), before)


if __name__ == "__main__":
    unittest.main()
