"""substitutions.py: [2.6], [2.7], [2.8], [2.9]."""

import itertools
import unittest

from lowerwords.choices import Choice
from lowerwords.errors import (
    BadLetter,
    BadLetters,
    BadNumber,
    BadPlaces,
    BadSubstitution,
    BadWord,
    NotTriangular,
    OtherLetters,
    TooMany,
)
from lowerwords.substitutions import (
    Substitution,
    all_steps,
    all_triangular,
    one_step,
    steps_of,
    triangular_at,
    triangular_number,
)
from lowerwords.words import heap_word, heaps_of
from tests.support import (
    BAD_SIZES,
    NO_NUMBERS,
    NO_SEQUENCES,
    SIZES,
    Case,
    all_below_by_descents,
    chance,
    letter_set,
    some_words,
)


def sums_of(lots):
    """All sums of some of the lots."""
    sums = {0}
    for lot in lots:
        sums |= {lot ^ other for other in sums}
    return sums


def chance_rows(letters, source):
    """Rows of a substitution that is one to one."""
    rows = []
    while len(rows) < letters:
        lot = source.randrange(2 ** letters)
        if lot not in sums_of(row[0] for row in rows):
            rows.append((lot, source.randrange(2)))
    return tuple(rows)


def some_rows(letters, many, seed):
    """All rows of substitutions of one or two letters, some of more."""
    source = chance(seed)
    if letters > 2:
        return [chance_rows(letters, source) for _ in range(many)]
    lots = [lots for lots in itertools.product(range(2 ** letters), repeat=letters)]
    lots = [row for row in lots if len(sums_of(row)) == 2 ** letters]
    return [tuple(zip(row, bits)) for row in lots for bits in itertools.product((0, 1), repeat=letters)]


def place_by_letters(rows, place):
    """The place to which the rows lead a place, letter by letter."""
    found = 0
    for letter, (lot, bit) in enumerate(rows):
        found += 2 ** letter * ((len(letter_set(lot) & letter_set(place)) + bit) % 2)
    return found


def plain_rows(letters):
    """The rows that leave all letters."""
    return tuple((2 ** letter, 0) for letter in range(letters))


def most_number(letters):
    """The greatest number of a triangular substitution."""
    return 2 ** (letters * (letters + 1) // 2) - 1


def some_numbers(letters, many, seed):
    """All numbers of triangular substitutions of few letters, some of more."""
    if letters <= 3:
        return list(range(most_number(letters) + 1))
    source = chance(seed)
    return [0, 1, most_number(letters)] + [source.randrange(most_number(letters) + 1) for _ in range(many)]


class MakingSubstitutions(Case):
    def assert_bad(self, what, index, letters, rows):
        """The substitution is refused with this tag and index."""
        self.assert_error(BadSubstitution, {"what": what, "index": index}, Substitution, letters, rows)

    def test_letters_and_rows(self):
        for letters in SIZES:
            for rows in some_rows(letters, 30, 50):
                for passed in (rows, list(rows), [list(row) for row in rows], tuple(list(row) for row in rows)):
                    made = Substitution(letters, passed)
                    self.assert_same(made.letters, letters)
                    self.assert_same(made.rows, rows)

    def test_bad_letters_come_first(self):
        for letters in BAD_SIZES:
            for rows in ((), None, ((1, 0),), ((0, 0),)):
                self.assert_bad("letters", 0, letters, rows)

    def test_many(self):
        for letters in SIZES:
            for thing in NO_SEQUENCES + ({(1, 0)}, {(1, 0): 1}, iter(plain_rows(letters))):
                self.assert_bad("many", 0, letters, thing)
            rows = plain_rows(letters)
            self.assert_bad("many", 0, letters, rows[:-1])
            self.assert_bad("many", 0, letters, rows + ((1, 0),))
            self.assert_bad("many", 0, letters, ())
            # The number of rows comes ahead of what they are.
            self.assert_bad("many", 0, letters, (None,) * (letters + 1))

    def test_row(self):
        wrong = (None, 1, True, "10", b"10", (), (1,), (1, 0, 0), [1], [1, 0, 0], {1, 0}, {1: 0, 0: 1}, ((1, 0),))
        for letters in SIZES:
            for index in range(letters):
                rows = list(plain_rows(letters))
                for thing in wrong:
                    rows[index] = thing
                    self.assert_bad("row", index, letters, rows)
                lot = 2 ** index
                for thing in NO_NUMBERS + (-1, 2 ** letters, 10 ** 30):
                    rows[index] = (thing, 0)
                    self.assert_bad("row", index, letters, tuple(rows))
                    rows[index] = [lot, thing]
                    self.assert_bad("row", index, letters, rows)
                rows[index] = (lot, 2)
                self.assert_bad("row", index, letters, rows)

    def test_once(self):
        for letters in SIZES:
            source = chance(51)
            for index in range(letters):
                for _ in range(6):
                    rows = list(chance_rows(letters, source))
                    before = sums_of(row[0] for row in rows[:index])
                    for lot in sorted(before):
                        rows[index] = (lot, 1)
                        self.assert_bad("once", index, letters, rows)
        self.assert_bad("once", 0, 1, ((0, 0),))
        self.assert_bad("once", 2, 3, ((1, 0), (3, 0), (2, 0)))
        self.assert_bad("once", 1, 2, ((3, 0), (3, 1)))
        self.assert_bad("once", 4, 5, ((3, 0), (6, 0), (12, 0), (24, 0), (17, 0)))

    def test_row_by_row(self):
        self.assert_bad("once", 0, 3, ((0, 0), None, (1, 0)))
        self.assert_bad("once", 1, 3, ((1, 0), (1, 0), None))
        self.assert_bad("row", 1, 3, ((1, 0), (8, 0), (1, 0)))
        self.assert_bad("row", 0, 3, ((0, 2), (0, 0), (1, 0)))

    def test_alike_and_unlike(self):
        for letters in SIZES:
            made = [Substitution(letters, rows) for rows in some_rows(letters, 6, 52)[:8]]
            made += [Choice(letters, ()), letters, None, plain_rows(letters)]
            for index, one in enumerate(made[:-4]):
                self.assert_alike(one, Substitution(letters, [list(row) for row in one.rows]))
                for other in made[index + 1:]:
                    if getattr(other, "rows", ()) != one.rows:
                        self.assert_unlike(one, other)
        self.assert_unlike(Substitution(1, ((1, 0),)), Substitution(1, ((1, 1),)))
        self.assert_unlike(Substitution(1, ((1, 0),)), Substitution(2, ((1, 0), (2, 0))))

    def test_a_list_that_is_changed_later_changes_nothing(self):
        rows = [[1, 0], [2, 0]]
        made = Substitution(2, rows)
        rows[0][0] = 3
        rows[1] = [1, 1]
        rows.append([0, 0])
        self.assert_same(made.rows, ((1, 0), (2, 0)))


class Moving(Case):
    def test_place_of(self):
        for letters in SIZES:
            for rows in some_rows(letters, 25, 53):
                made = Substitution(letters, rows)
                places = [made.place_of(place) for place in range(2 ** letters)]
                self.assert_same(places, [place_by_letters(rows, place) for place in range(2 ** letters)])
                self.assertEqual(len(set(places)), 2 ** letters)
                for thing in NO_NUMBERS + (-1, 2 ** letters, 10 ** 30):
                    self.assert_error(BadPlaces, {"index": 0}, made.place_of, thing)

    def test_moved(self):
        for letters in SIZES:
            words = some_words(letters, 12, 54)[::3]
            for rows in some_rows(letters, 12, 55):
                made = Substitution(letters, rows)
                for word in words:
                    due = [word >> place_by_letters(rows, place) & 1 for place in range(2 ** letters)]
                    self.assert_same(made.moved(word), sum(bit << place for place, bit in enumerate(due)))
                for thing in NO_NUMBERS + (-1, 2 ** 2 ** letters):
                    self.assert_error(BadWord, {"index": 0}, made.moved, thing)

    def test_the_word_of_a_letter_is_moved_to_the_sum_of_its_row(self):
        for letters in SIZES:
            for rows in some_rows(letters, 12, 56):
                made = Substitution(letters, rows)
                for letter, (lot, bit) in enumerate(rows):
                    due = [0] * bit + [2 ** other for other in sorted(letter_set(lot))]
                    self.assertEqual(list(heaps_of(letters, made.moved(heap_word(letters, 2 ** letter)))), due)

    def test_sums_products_and_weights(self):
        for letters in SIZES:
            words = some_words(letters, 8, 57)[:16]
            for rows in some_rows(letters, 6, 58):
                made = Substitution(letters, rows)
                for word in words:
                    self.assertEqual(bin(made.moved(word)).count("1"), bin(word).count("1"))
                    for other in words:
                        self.assertEqual(made.moved(word ^ other), made.moved(word) ^ made.moved(other))
                        self.assertEqual(made.moved(word & other), made.moved(word) & made.moved(other))

    def test_after(self):
        for letters in SIZES:
            words = some_words(letters, 8, 59)[:24]
            made = [Substitution(letters, rows) for rows in some_rows(letters, 7, 60)[:24:2]]
            for one in made:
                for other in made:
                    both = one.after(other)
                    self.assertIs(both.__class__, Substitution)
                    for word in words:
                        self.assertEqual(both.moved(word), one.moved(other.moved(word)))

    def test_after_in_known_order(self):
        # The other one puts letter 0 for letter 1 and back; then letter 1 is replaced by its opposite.
        one = Substitution(2, ((1, 0), (2, 1)))
        other = Substitution(2, ((2, 0), (1, 0)))
        self.assert_same(one.after(other).rows, ((2, 1), (1, 0)))
        self.assert_same(other.after(one).rows, ((2, 0), (1, 1)))

    def test_after_with_other_letters(self):
        for letters, others in itertools.permutations(SIZES, 2):
            one, other = Substitution(letters, plain_rows(letters)), Substitution(others, plain_rows(others))
            self.assert_error(OtherLetters, {"letters": others}, one.after, other)

    def test_back(self):
        for letters in SIZES:
            words = some_words(letters, 8, 61)[:40]
            for rows in some_rows(letters, 20, 62):
                made = Substitution(letters, rows)
                back = made.back()
                self.assertIs(back.__class__, Substitution)
                for word in words:
                    self.assertEqual(back.moved(made.moved(word)), word)
                    self.assertEqual(made.moved(back.moved(word)), word)
                self.assert_alike(back.back(), made)
                self.assert_same(made.rows, rows)


class Steps(Case):
    def test_which_substitutions_are_triangular(self):
        for letters in SIZES:
            found = [Substitution(letters, rows) for rows in some_rows(letters, 40, 63)]
            found += [triangular_at(letters, number) for number in some_numbers(letters, 20, 64)[:100]]
            for made in found:
                unfit = [
                    letter
                    for letter, (lot, _) in enumerate(made.rows)
                    if letter not in letter_set(lot) or max(letter_set(lot)) != letter
                ]
                self.assertIs(made.is_triangular, not unfit)
                if unfit:
                    self.assert_error(NotTriangular, {"letter": unfit[0]}, steps_of, made)
                    self.assert_error(NotTriangular, {"letter": unfit[0]}, triangular_number, made)

    def test_the_least_letter_whose_lot_does_not_fit(self):
        for letter, rows in (
            (0, ((2, 0), (1, 0), (4, 0))),
            (0, ((3, 0), (2, 0), (4, 0))),
            (1, ((1, 0), (4, 0), (2, 0))),
            (1, ((1, 1), (6, 0), (4, 0))),
        ):
            made = Substitution(3, rows)
            self.assertIs(made.is_triangular, False)
            self.assert_error(NotTriangular, {"letter": letter}, steps_of, made)
            self.assert_error(NotTriangular, {"letter": letter}, triangular_number, made)

    def test_step_substitutions(self):
        for letters in SIZES:
            for letter in range(letters):
                rows = list(plain_rows(letters))
                rows[letter] = (2 ** letter, 1)
                self.assert_same(one_step(letters, letter).rows, tuple(rows))
                self.assert_alike(one_step(letters, letter, None), Substitution(letters, rows))
                for lower in range(letter):
                    rows[letter] = (2 ** letter + 2 ** lower, 0)
                    self.assert_alike(one_step(letters, letter, lower), Substitution(letters, rows))
                    self.assert_alike(one_step(letters, letter, lower=lower), Substitution(letters, rows))

    def test_wrong_steps(self):
        for letters in BAD_SIZES:
            self.assert_error(BadLetters, {}, one_step, letters, -1, -1)
            self.assert_error(BadLetters, {}, all_steps, letters)
        for letters in SIZES:
            for thing in NO_NUMBERS + (-1, letters, 10 ** 30):
                self.assert_error(BadLetter, {}, one_step, letters, thing)
                self.assert_error(BadLetter, {}, one_step, letters, thing, 0)
            for letter in range(letters):
                for thing in NO_NUMBERS + (-1, letter, letter + 1, 10 ** 30):
                    if thing is not None:
                        self.assert_error(BadLetter, {}, one_step, letters, letter, thing)

    def test_all_steps(self):
        self.assert_same(all_steps(1), ((0, None),))
        self.assert_same(all_steps(3), ((0, None), (1, 0), (1, None), (2, 0), (2, 1), (2, None)))
        for letters in SIZES:
            due = [(letter, lower) for letter in range(letters) for lower in [*range(letter), None]]
            self.assert_same(all_steps(letters), tuple(due))

    def test_a_step_done_twice_leaves_every_word(self):
        for letters in SIZES:
            for letter, lower in all_steps(letters):
                step = one_step(letters, letter, lower)
                self.assert_alike(step.after(step), Substitution(letters, plain_rows(letters)))
                self.assert_alike(step.back(), step)
                self.assert_same(steps_of(step), ((letter, lower),))

    def test_steps_of_a_triangular_substitution(self):
        for letters in SIZES:
            words = some_words(letters, 3, 65)[:12]
            for number in some_numbers(letters, 25, 66):
                made = triangular_at(letters, number)
                steps = steps_of(made)
                due = [
                    (letter, lower)
                    for letter, lower in all_steps(letters)
                    if (made.rows[letter][1] if lower is None else made.rows[letter][0] >> lower & 1)
                ]
                self.assert_same(steps, tuple(due))
                for word in words:
                    moved = word
                    for letter, lower in steps:
                        moved = one_step(letters, letter, lower).moved(moved)
                    self.assertEqual(moved, made.moved(word))
                    for letter, lower in reversed(steps):
                        moved = one_step(letters, letter, lower).moved(moved)
                    self.assertEqual(moved, word)
            self.assert_same(steps_of(Substitution(letters, plain_rows(letters))), ())


class Numbers(Case):
    def test_numbers_there_and_back(self):
        for letters in SIZES:
            self.assert_same(triangular_at(letters, 0).rows, plain_rows(letters))
            for number in some_numbers(letters, 200, 67):
                made = triangular_at(letters, number)
                self.assertIs(made.is_triangular, True)
                self.assert_same(triangular_number(made), number)

    def test_the_digits(self):
        for letters in SIZES:
            for number in some_numbers(letters, 60, 68):
                rest = number
                rows = []
                for letter in range(letters):
                    rest, digit = divmod(rest, 2 ** (letter + 1))
                    rows.append((digit // 2 + 2 ** letter, digit % 2))
                self.assert_same(triangular_at(letters, number).rows, tuple(rows))
        # Digits 1, 2 and 5: 1 + 2 * 2 + 8 * 5.
        self.assert_same(triangular_at(3, 45).rows, ((1, 1), (3, 0), (6, 1)))
        self.assert_same(triangular_number(Substitution(3, ((1, 1), (3, 0), (6, 1)))), 45)

    def test_wrong_numbers(self):
        for letters in SIZES:
            most = most_number(letters)
            for thing in NO_NUMBERS + (-1, most + 1, most + 10 ** 30):
                self.assert_error(BadNumber, {"most": most}, triangular_at, letters, thing)
        for letters in BAD_SIZES:
            self.assert_error(BadLetters, {}, triangular_at, letters, -1)

    def test_all_by_number(self):
        for letters in (1, 2, 3, 4):
            found = list(all_triangular(letters))
            self.assertEqual(len(found), most_number(letters) + 1)
            self.assertEqual([triangular_number(made) for made in found], list(range(len(found))))
            for made in found[::37]:
                self.assert_alike(made, triangular_at(letters, triangular_number(made)))

    def test_not_all_of_five_letters(self):
        def listed(letters):
            return list(all_triangular(letters))

        self.assert_error(TooMany, {"most": 4}, listed, 5)
        for letters in BAD_SIZES:
            self.assert_error(BadLetters, {}, listed, letters)

    def test_after_and_back_stay_triangular_and_eight_times_leave_every_word(self):
        for letters in SIZES:
            numbers = some_numbers(letters, 15, 69)[::3]
            made = [triangular_at(letters, number) for number in numbers]
            for one, other in zip(made, made[1:] + made[:1]):
                self.assertIs(one.after(other).is_triangular, True)
                self.assertIs(one.back().is_triangular, True)
                again = one
                for _ in range(7):
                    again = again.after(one)
                self.assert_same(again.rows, plain_rows(letters))

    def test_a_heap_is_moved_to_itself_and_heaps_below(self):
        for letters in SIZES:
            for number in some_numbers(letters, 12, 70)[::5]:
                made = triangular_at(letters, number)
                for heap in range(2 ** letters):
                    heaps = heaps_of(letters, made.moved(heap_word(letters, heap)))
                    self.assertIn(heap, heaps)
                    self.assertLessEqual(set(heaps), all_below_by_descents(heap))


if __name__ == "__main__":
    unittest.main()
