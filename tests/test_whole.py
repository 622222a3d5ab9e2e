"""What part 0 promises of all functions and methods: [0.4], [0.5]."""

import copy
import importlib
import unittest

from lowerwords.bench import Bench
from lowerwords.choices import Choice
from lowerwords.substitutions import Substitution
from tests.support import Case
from tests.test_interface import CLASSES, FUNCTIONS, GENERATORS

STAIRS = Choice(3, [0, 1, 2, 3, 4, 5])
LINES = Choice(3, [0, 1, 2, 4])
STEP = Substitution(3, [[1, 0], [2, 0], [6, 1]])

# For each function arguments that it takes; each list among them may be a tuple as well.
SAMPLES = {
    "is_whole": (3, 0, 5),
    "check_letters": (3,),
    "check_letter": (3, 2),
    "check_bit": (1,),
    "check_number": (3, 4),
    "check_heap": (3, 5),
    "check_heaps": (3, [5, 0, 5]),
    "check_places": (3, [5, 0, 5]),
    "letters_of": (5,),
    "count_ones": (7,),
    "parity_of": (7,),
    "all_letters": (3,),
    "complement_of": (3, 5),
    "all_heaps": (3,),
    "check_word": (3, 150),
    "full_word": (3,),
    "word_of": (3, [4, 1]),
    "heap_word": (3, 5),
    "heaps_of": (3, 150),
    "places_of": (3, 150),
    "marked_word": (3, [7, 1, 1]),
    "weight_of": (3, 150),
    "value_at": (3, 150, 1),
    "meets_evenly": (3, 150, 7),
    "check_order": (3, [2, 0, 1]),
    "renamed_word": (3, 150, [2, 0, 1]),
    "check_same": (3, 3),
    "check_some": (STAIRS,),
    "holds": (STAIRS, 150),
    "word_at": (STAIRS, 5),
    "number_of": (STAIRS, 150),
    "all_words": (LINES,),
    "renamed_choice": (STAIRS, [2, 0, 1]),
    "heap_text": (5,),
    "heap_from_text": (3, "02"),
    "choice_text": (STAIRS,),
    "choice_from_text": ("3: - 02",),
    "word_text": (3, 150),
    "word_from_text": (3, "01101001"),
    "is_below": (1, 5),
    "descents_of": (5,),
    "all_below": (5,),
    "way_down": (1, 5),
    "bar_letter": (5, 3),
    "closed_gap": (Choice(3, [5]),),
    "first_gap": (Choice(3, [0, 4]),),
    "is_closed": (STAIRS,),
    "is_falling": (STAIRS,),
    "check_closed": (STAIRS,),
    "check_falling": (STAIRS,),
    "closed_by": (Choice(3, [5]),),
    "closure_of": (Choice(3, [5]),),
    "heads_of": (STAIRS,),
    "one_step": (3, 2, 0),
    "all_steps": (3,),
    "steps_of": (STEP,),
    "triangular_at": (3, 20),
    "triangular_number": (STEP,),
    "all_triangular": (2,),
    "kept_by": (Choice(3, [4]), STEP),
    "kept_by_all": (Choice(3, [4]),),
    "substitution_text": (STEP,),
    "substitution_from_text": ("3: 0 1 02+",),
    "check_words": ([5, 3, 5],),
    "reduced_rows": ([5, 3, 5],),
    "span_size": ([5, 3, 5],),
    "remainder_of": ([5, 3, 5], 4),
    "in_span": ([5, 3, 5], 6),
    "sums_to": ([5, 3, 5], 6),
    "sums_within": ([5, 3, 5], 6),
    "even_rows": (3, [5, 3, 5]),
    "rest_rows": (Choice(3, [1]),),
    "rest_of": (STAIRS,),
    "rest_part": (Choice(3, [1]),),
    "rest_gap": (Choice(3, [1]),),
    "meets_rest": (STAIRS, 1),
    "within_rest": (STAIRS,),
    "own_rest": (LINES,),
    "shared_rows": (LINES,),
    "grain_of": (STAIRS,),
    "check_forms": (3, [[3, 1], [1, 0]]),
    "form_word": (3, [3, 1]),
    "reduced_forms": (3, [[3, 1], [1, 0]]),
    "flat_word": (3, [[3, 1], [1, 0]]),
    "leading_heap": (3, [[3, 1], [1, 0]]),
    "forms_of": (3, 5),
    "flat_over": (3, [2, 0, 2]),
    "least_weight": (STAIRS,),
    "is_least": (STAIRS, 5),
    "under_count": (3, 5),
    "least_count": (STAIRS,),
    "least_forms": (STAIRS, 9),
    "least_at": (STAIRS, 9),
    "least_number": (STAIRS, 5),
    "all_least": (STAIRS,),
    "made_by_least": (STAIRS,),
    "unmade_heap": (STAIRS,),
    "least_sum": (STAIRS, 0),
    "sum_fault": (STAIRS, 5, [160]),
    "weights_row": (STAIRS,),
    "exchanged_letters": (3, 0),
    "exchange_kept": (STAIRS, 0),
    "blocks_of": (STAIRS,),
    "check_blocks": (3, [[0], [1, 2]]),
    "kept_closure": (STAIRS, [[0, 1], [2]]),
    "kept_core": (STAIRS, [[0, 1], [2]]),
    "block_group_size": (3, [[0, 1], [2]]),
    "group_size": (STAIRS,),
    "in_group": (STAIRS, STEP),
    "outside_group": (STAIRS, Substitution(3, [[2, 0], [1, 0], [4, 0]])),
    "member_at": (STAIRS, 100),
    "member_number": (STAIRS, STEP),
    "all_members": (Choice(2, [0, 1]),),
    "orbit_of": (3, 5),
    "least_of_orbit": (3, 5),
    "stays_count": (3, 5),
    "moves_between": (3, 5, 10),
    "least_orbits": (STAIRS,),
    "member_between": (STAIRS, 5, 136),
    "ballots_of": (3, 5),
    "votes_for": (3, 150, 1),
    "spoilt_votes": (3, [5, 0, 5], 1),
    "split_votes": (3, 136, 1),
    "reads_sure": (LINES,),
    "read_steps": (LINES, 33),
    "read_votes": (LINES, 32),
    "told_fault": (LINES, 33, 0),
    "read_count": (LINES,),
    "nearest_words": (LINES, 33),
    "two_near": (LINES, 2),
    "read_lossy": (LINES, 36, [2, 2]),
    "sure_wrong": (LINES, 1),
    "hidden_rows": (STAIRS, [2, 0, 2]),
    "told_lost": (STAIRS, [2, 0, 2]),
    "hidden_fault": (STAIRS, [2, 0, 2], 7),
    "fill_lost": (STAIRS, 1, [2, 0, 2]),
    "fits_count": (STAIRS, 1, [2, 0, 2]),
    "all_fits": (STAIRS, 1, [2, 0, 2]),
    "all_told": (STAIRS, 3),
    "least_untold": (STAIRS,),
    "most_told": (STAIRS,),
    "check_bits": ([0, 1], 2),
    "data_places": (STAIRS,),
    "write_data": (LINES, [0, 1, 1, 0]),
    "bits_of": (LINES, 102),
    "free_gap": (STAIRS, [1, 0, 2, 3, 4, 5, 6]),
    "data_gap": (STAIRS, [1, 0, 2]),
    "write_at": (LINES, [7, 6, 5, 3], [0, 1, 1, 0]),
    "looks_of": (STAIRS,),
    "failed_look": (STAIRS, 2),
    "passing_choice": (STAIRS,),
    "looks_gap": (Choice(3, [0, 1, 2]),),
    "write_message": (LINES, [0, 1, 1, 0, 1]),
    "message_from": (LINES, [102, 195], [0, 0]),
    "halves_of": (STAIRS,),
    "half_words": (3, 150),
    "joined_words": (2, 7, 5),
    "joined_halves": (Choice(2, [0, 1]), Choice(2, [0])),
    "halves_gap": (Choice(2, [0, 1]), Choice(2, [0])),
    "strike_word": (3, 150, 1, 1),
    "widen_word": (3, 7, 1, 1),
    "strike": (STAIRS, 1, 1),
    "shorten": (STAIRS, 1, 1),
    "product_of": (LINES, LINES),
    "power_of": (LINES, 3),
    "union_pair": (LINES, LINES, 6),
    "kept_in": (LINES, LINES, 170),
    "quotient_of": (STAIRS, LINES),
    "all_falling": (3,),
    "count_falling": (3,),
    "falling_at": (3, 5),
    "number_of_falling": (STAIRS,),
    "next_heaps": (LINES,),
    "best_choice": (3, 4),
    "best_row": (2,),
    "check_edits": (3, [["add", 4], ["swap", 0]]),
    "choice_after": (LINES, [["add", 7], ["swap", 0]]),
    "check_goals": (3, [["told", [2, 0, 2]], ["falling"], ["kept", STEP]]),
    "first_unmet": (LINES, [["told", [2, 0, 2]], ["size", 5]]),
    "find_mends": (LINES, [["add", 3], ["drop", 0]], [["size", 5]]),
    "find_spoilers": (STAIRS, [["drop", 3], ["drop", 0]], [["size", 5]]),
    "try_edits": (Bench(STAIRS), [["drop", 5]], [["weight", 4]]),
}

METHODS = {
    "with_heap": (LINES, 7),
    "without_heap": (LINES, 4),
    "joined": (LINES, STAIRS),
    "common": (LINES, STAIRS),
    "place_of": (STEP, 6),
    "moved": (STEP, 150),
    "after": (STEP, STEP),
    "back": (STEP,),
}

OWN = {name: file for file, classes in CLASSES.items() for name in classes}


def shape(thing):
    """A thing as plain values, each with its kind; objects of the package as their attributes."""
    if isinstance(thing, (list, tuple)):
        return [thing.__class__.__name__, [shape(part) for part in thing]]
    if thing.__class__.__name__ in OWN:
        return [thing.__class__.__name__, [[name, shape(part)] for name, part in sorted(vars(thing).items())]]
    return [thing.__class__.__name__, repr(thing)]


def with_tuples(thing):
    """The thing with a tuple for each list."""
    return tuple([with_tuples(part) for part in thing]) if isinstance(thing, (list, tuple)) else thing


def parts_within(thing):
    """All things within a thing, itself among them."""
    found = [thing]
    inner = thing if isinstance(thing, (list, tuple)) else vars(thing).values() if hasattr(thing, "__dict__") else ()
    for part in inner:
        found.extend(parts_within(part))
    return found


class AllFunctions(Case):
    def calls(self):
        """(name, call, arguments) for each function and each method that changes nothing."""
        for file, functions in FUNCTIONS.items():
            module = importlib.import_module("lowerwords." + file)
            for due in functions:
                name = due[:due.index("(")]
                function = vars(module)[name]
                if name in GENERATORS:
                    yield name, lambda *things, made=function: tuple(made(*things)), SAMPLES[name]
                else:
                    yield name, function, SAMPLES[name]
        for name, (thing, *others) in METHODS.items():
            yield name, lambda one, *further, told=name: getattr(one, told)(*further), (thing, *others)

    def test_each_function_has_a_sample(self):
        names = [due[:due.index("(")] for functions in FUNCTIONS.values() for due in functions]
        self.assertEqual(sorted(names), sorted(SAMPLES))
        self.assertEqual(len(names), len(set(names)))

    def test_nothing_that_is_passed_in_is_changed(self):
        for name, call, things in self.calls():
            with self.subTest(name):
                passed = copy.deepcopy(things)
                call(*passed)
                self.assertEqual(shape(passed), shape(things))

    def test_a_list_is_as_good_as_a_tuple(self):
        for name, call, things in self.calls():
            with self.subTest(name):
                self.assertEqual(shape(call(*with_tuples(things))), shape(call(*copy.deepcopy(things))))

    def test_sequences_that_are_returned_are_tuples(self):
        for name, call, things in self.calls():
            with self.subTest(name):
                for part in parts_within(call(*things)):
                    own = part.__class__.__name__ in OWN
                    self.assertTrue(own or isinstance(part, (int, str, tuple, type(None))), part)

    def test_later_changes_of_a_list_have_no_effect(self):
        for name, call, things in self.calls():
            with self.subTest(name):
                passed = copy.deepcopy(things)
                result = call(*passed)
                before = shape(result)
                for part in parts_within(passed):
                    if isinstance(part, list):
                        part.append(None)
                        part[0] = None
                self.assertEqual(shape(result), before)

    def test_the_same_call_gives_the_same_once_more(self):
        for name, call, things in self.calls():
            with self.subTest(name):
                first, second = call(*things), call(*things)
                self.assertEqual(shape(first), shape(second))
                self.assertTrue(first == second)
                self.assertFalse(first != second)


if __name__ == "__main__":
    unittest.main()
