"""The head of the interface: names, arguments, defaults, and where each function and class is defined."""

import importlib
import inspect
import unittest

FUNCTIONS = {
    "heaps": (
        "is_whole(thing, low, high)",
        "check_letters(letters)",
        "check_letter(letters, letter)",
        "check_bit(bit)",
        "check_number(number, most)",
        "check_heap(letters, heap)",
        "check_heaps(letters, heaps)",
        "check_places(letters, places)",
        "letters_of(heap)",
        "count_ones(number)",
        "parity_of(number)",
        "all_letters(letters)",
        "complement_of(letters, heap)",
        "all_heaps(letters)",
    ),
    "words": (
        "check_word(letters, word)",
        "full_word(letters)",
        "word_of(letters, heaps)",
        "heap_word(letters, heap)",
        "heaps_of(letters, word)",
        "places_of(letters, word)",
        "marked_word(letters, places)",
        "weight_of(letters, word)",
        "value_at(letters, word, place)",
        "meets_evenly(letters, word, other)",
        "check_order(letters, order)",
        "renamed_word(letters, word, order)",
    ),
    "choices": (
        "check_same(letters, other_letters)",
        "check_some(choice)",
        "holds(choice, word)",
        "word_at(choice, number)",
        "number_of(choice, word)",
        "all_words(choice)",
        "renamed_choice(choice, order)",
    ),
    "choicetext": (
        "heap_text(heap)",
        "heap_from_text(letters, text)",
        "choice_text(choice)",
        "choice_from_text(text)",
    ),
    "wordtext": (
        "word_text(letters, word)",
        "word_from_text(letters, text)",
    ),
    "below": (
        "is_below(heap, other)",
        "descents_of(heap)",
        "all_below(heap)",
        "way_down(heap, other)",
        "bar_letter(heap, other)",
    ),
    "falling": (
        "closed_gap(choice)",
        "first_gap(choice)",
        "is_closed(choice)",
        "is_falling(choice)",
        "check_closed(choice)",
        "check_falling(choice)",
        "closed_by(choice)",
        "closure_of(choice)",
        "heads_of(choice)",
    ),
    "substitutions": (
        "one_step(letters, letter, lower=None)",
        "all_steps(letters)",
        "steps_of(substitution)",
        "triangular_at(letters, number)",
        "triangular_number(substitution)",
        "all_triangular(letters)",
    ),
    "keeping": (
        "kept_by(choice, substitution)",
        "kept_by_all(choice)",
    ),
    "substitutiontext": (
        "substitution_text(substitution)",
        "substitution_from_text(text)",
    ),
    "reduced": (
        "check_words(words)",
        "reduced_rows(words)",
        "span_size(words)",
        "remainder_of(words, word)",
        "in_span(words, word)",
        "sums_to(words, word)",
        "sums_within(words, allowed)",
        "even_rows(letters, words)",
    ),
    "rests": (
        "rest_rows(choice)",
        "rest_of(choice)",
        "rest_part(choice)",
        "rest_gap(choice)",
        "meets_rest(choice, word)",
        "within_rest(choice)",
        "own_rest(choice)",
        "shared_rows(choice)",
    ),
    "grains": ("grain_of(choice)",),
    "flats": (
        "check_forms(letters, forms)",
        "form_word(letters, form)",
        "reduced_forms(letters, forms)",
        "flat_word(letters, forms)",
        "leading_heap(letters, forms)",
        "forms_of(letters, word)",
        "flat_over(letters, places)",
    ),
    "leasts": (
        "least_weight(choice)",
        "is_least(choice, word)",
        "under_count(letters, heap)",
        "least_count(choice)",
        "least_forms(choice, number)",
        "least_at(choice, number)",
        "least_number(choice, word)",
        "all_least(choice)",
    ),
    "counts": (
        "made_by_least(choice)",
        "unmade_heap(choice)",
        "least_sum(choice, heap)",
        "sum_fault(choice, heap, words)",
        "weights_row(choice)",
    ),
    "blocks": (
        "exchanged_letters(letters, letter)",
        "exchange_kept(choice, letter)",
        "blocks_of(choice)",
        "check_blocks(letters, blocks)",
        "kept_closure(choice, blocks)",
        "kept_core(choice, blocks)",
    ),
    "groups": (
        "block_group_size(letters, blocks)",
        "group_size(choice)",
        "in_group(choice, substitution)",
        "outside_group(choice, substitution)",
        "member_at(choice, number)",
        "member_number(choice, substitution)",
        "all_members(choice)",
    ),
    "orbits": (
        "orbit_of(letters, word)",
        "least_of_orbit(letters, word)",
        "stays_count(letters, word)",
        "moves_between(letters, word, other)",
        "least_orbits(choice)",
        "member_between(choice, word, other)",
    ),
    "votes": (
        "ballots_of(letters, heap)",
        "votes_for(letters, word, heap)",
        "spoilt_votes(letters, places, heap)",
        "split_votes(letters, word, heap)",
    ),
    "readings": (
        "reads_sure(choice)",
        "read_steps(choice, word)",
        "read_votes(choice, word, *, most=None)",
        "told_fault(choice, word, claimed)",
        "read_count(choice, *, most=None)",
        "nearest_words(choice, word)",
        "two_near(choice, many=0)",
    ),
    "lossy": (
        "read_lossy(choice, word, lost)",
        "sure_wrong(choice, many)",
    ),
    "losses": (
        "hidden_rows(choice, lost)",
        "told_lost(choice, lost)",
        "hidden_fault(choice, lost, word)",
        "fill_lost(choice, word, lost)",
        "fits_count(choice, word, lost)",
        "all_fits(choice, word, lost)",
        "all_told(choice, number)",
        "least_untold(choice)",
        "most_told(choice)",
    ),
    "data": (
        "check_bits(bits, many)",
        "data_places(choice)",
        "write_data(choice, bits)",
        "bits_of(choice, word)",
        "free_gap(choice, places)",
        "data_gap(choice, places)",
        "write_at(choice, places, bits)",
    ),
    "looks": (
        "looks_of(choice)",
        "failed_look(choice, word)",
        "passing_choice(choice)",
        "looks_gap(choice)",
    ),
    "messages": (
        "write_message(choice, bits)",
        "message_from(choice, words, lost=())",
    ),
    "halves": (
        "halves_of(choice)",
        "half_words(letters, word)",
        "joined_words(letters, first, second)",
        "joined_halves(first, second, *, must_fall=False)",
        "halves_gap(first, second)",
        "strike_word(letters, word, letter, bit)",
        "widen_word(letters, word, letter, bit)",
        "strike(choice, letter, bit)",
        "shorten(choice, letter, bit)",
    ),
    "products": (
        "product_of(choice, other)",
        "power_of(choice, times)",
        "union_pair(choice, other, heap)",
        "kept_in(choice, other, word)",
        "quotient_of(choice, other)",
    ),
    "staircases": (
        "all_falling(letters)",
        "count_falling(letters)",
        "falling_at(letters, number)",
        "number_of_falling(choice)",
        "next_heaps(choice)",
    ),
    "best": (
        "best_choice(letters, size)",
        "best_row(letters)",
    ),
    "edits": (
        "check_edits(letters, edits)",
        "choice_after(choice, edits)",
        "check_goals(letters, goals)",
        "first_unmet(choice, goals)",
    ),
    "mends": (
        "find_mends(choice, pool, goals)",
        "find_spoilers(choice, pool, goals)",
    ),
    "bench": ("try_edits(bench, edits, goals=())",),
}

GENERATORS = (
    "all_words",
    "all_triangular",
    "all_least",
    "all_members",
    "read_steps",
    "all_fits",
    "least_untold",
    "all_falling",
)

# For each class: its parameters, its methods with their parameters, its properties.
CLASSES = {
    "choices": {
        "Choice": (
            "(letters, heaps)",
            (
                "with_heap(self, heap)",
                "without_heap(self, heap)",
                "joined(self, other)",
                "common(self, other)",
                "__contains__(self, heap)",
                "__iter__(self)",
                "__eq__(self, other)",
            ),
            ("size", "top_size"),
        ),
    },
    "substitutions": {
        "Substitution": (
            "(letters, rows)",
            ("place_of(self, place)", "moved(self, word)", "after(self, other)", "back(self)", "__eq__(self, other)"),
            ("is_triangular",),
        ),
    },
    "keeping": {
        "Leaves": ("(heap, word)", ("__eq__(self, other)",), ()),
        "LeavesBy": ("(substitution, heap, word)", ("__eq__(self, other)",), ()),
    },
    "rests": {
        "Strange": ("(word, heap)", ("__eq__(self, other)",), ()),
        "Against": ("(row)", ("__eq__(self, other)",), ()),
        "Pair": ("(first, second)", ("__eq__(self, other)",), ()),
    },
    "grains": {"Grain": ("(divisor, heaps)", ("__eq__(self, other)",), ())},
    "groups": {"Outside": ("(letter, far)", ("__eq__(self, other)",), ())},
    "orbits": {"LeastOrbit": ("(heaps, many)", ("__eq__(self, other)",), ())},
    "readings": {
        "Voted": ("(heap, votes, bit, rest)", ("__eq__(self, other)",), ()),
        "Read": ("(word, wrong, against)", ("__eq__(self, other)",), ()),
        "Far": ("(word, wrong, against)", ("__eq__(self, other)",), ()),
        "Tie": ("(heap)", ("__eq__(self, other)",), ()),
        "Outvoted": ("(heap, spoilt)", ("__eq__(self, other)",), ()),
        "Nearest": ("(distance, words)", ("__eq__(self, other)",), ()),
        "TwoNear": ("(word, lost, one, other)", ("__eq__(self, other)",), ()),
    },
    "lossy": {"Lossy": ("(word, wrong, sure)", ("__eq__(self, other)",), ())},
    "losses": {
        "Hidden": ("(word)", ("__eq__(self, other)",), ()),
        "Filled": ("(word)", ("__eq__(self, other)",), ()),
        "Many": ("(one, other)", ("__eq__(self, other)",), ()),
        "Clash": ("(word)", ("__eq__(self, other)",), ()),
        "Hiding": ("(lost, word)", ("__eq__(self, other)",), ()),
        "Most": ("(number, lost)", ("__eq__(self, other)",), ()),
    },
    "data": {"Dependent": ("(word)", ("__eq__(self, other)",), ())},
    "looks": {"Fails": ("(look)", ("__eq__(self, other)",), ())},
    "messages": {
        "Message": ("(bits, mistakes)", ("__eq__(self, other)",), ()),
        "Broken": ("(index, what)", ("__eq__(self, other)",), ()),
    },
    "halves": {"HalfGap": ("(what, heap, missing)", ("__eq__(self, other)",), ())},
    "products": {"Escapes": ("(heap, word)", ("__eq__(self, other)",), ())},
    "best": {"Best": ("(weight, many, choice)", ("__eq__(self, other)",), ())},
    "bench": {
        "Bench": (
            "(choice)",
            ("make(self, edit)", "put_in(self, word)", "take_back(self)"),
            ("current", "held", "log"),
        ),
    },
}


def told(function):
    """A function as the interface writes it."""
    return function.__name__ + str(inspect.signature(function))


class Interface(unittest.TestCase):
    def test_functions(self):
        for file, functions in FUNCTIONS.items():
            module = importlib.import_module("lowerwords." + file)
            for due in functions:
                with self.subTest(due):
                    function = vars(module)[due[:due.index("(")]]
                    self.assertEqual(told(function), due)
                    self.assertEqual(function.__module__, "lowerwords." + file)
                    self.assertEqual(inspect.isgeneratorfunction(function), function.__name__ in GENERATORS)

    def test_classes(self):
        for file, classes in CLASSES.items():
            module = importlib.import_module("lowerwords." + file)
            for name, (parameters, methods, properties) in classes.items():
                made = vars(module)[name]
                with self.subTest(name):
                    self.assertEqual(made.__module__, "lowerwords." + file)
                    self.assertEqual(str(inspect.signature(made)), parameters)
                    for due in methods:
                        self.assertEqual(told(vars(made)[due[:due.index("(")]]), due)
                    for due in properties:
                        self.assertIsInstance(vars(made)[due], property)


if __name__ == "__main__":
    unittest.main()
