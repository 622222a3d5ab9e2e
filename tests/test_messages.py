"""messages.py: [9.1], [9.9] to [9.12]."""

import unittest

from lowerwords.choices import Choice
from lowerwords.errors import BadBits, BadMessage, BadPlaces, BadWord, EmptyChoice
from lowerwords.falling import closure_of
from lowerwords.lossy import read_lossy, sure_wrong
from lowerwords.messages import Broken, Message, message_from, write_message
from tests.support import NO_NUMBERS, NO_SEQUENCES, SIZES, Case, chance, code_of, some_heap_sets, subset_sets
from tests.test_data import values_at
from tests.test_losses import marks


def some_choices(seed, many):
    """Choices of all numbers of letters but the empty ones: falling ones and others."""
    for letters in SIZES:
        sets = [(0,), tuple(range(2 ** letters)), *some_heap_sets(letters, many, seed)]
        for heaps in sets if letters > 1 else subset_sets(1):
            if heaps:
                yield Choice(letters, heaps)
                yield closure_of(Choice(letters, heaps[:2]))


def pieces_of(bits, size):
    """The bits with a 1 and as few further 0 as are due, cut into pieces of this size."""
    row = list(bits) + [1]
    while len(row) % size:
        row.append(0)
    return [tuple(row[at:at + size]) for at in range(0, len(row), size)]


def some_bits(source, many):
    """So many bits."""
    return tuple(source.randrange(2) for _ in range(many))


class Results(Case):
    def test_results(self):
        self.assert_result(Message, ("bits", "mistakes"), (Broken,))
        self.assert_result(Broken, ("index", "what"), (Message,))


class Writing(Case):
    def test_against_the_code(self):
        source = chance(520)
        for choice in some_choices(521, 4):
            if choice.size > 6:
                continue
            words = {values_at(word, choice.heaps): word for word in code_of(choice.letters, choice.heaps)}
            for many in range(61):
                bits = some_bits(source, many)
                due = tuple(words[piece] for piece in pieces_of(bits, choice.size))
                self.assert_same(write_message(choice, bits), due)
                self.assert_same(write_message(choice, list(bits)), due)

    def test_how_many_words(self):
        for choice in some_choices(522, 2):
            for many in (0, 1, choice.size - 1, choice.size, 59, 60):
                words = write_message(choice, [1] * many)
                self.assertEqual(len(words), many // choice.size + 1)

    def test_the_example(self):
        self.assert_same(write_message(Choice(2, (0, 1)), (1, 0)), (5, 5))
        self.assert_alike(message_from(Choice(2, (0, 1)), (5, 5)), Message((1, 0), (0, 0)))

    def test_no_bits(self):
        self.assert_same(write_message(Choice(1, (0,)), ()), (3,))
        # Bit 1 at place 0 and bit 0 at place 1: the sum of the words 3 and 2.
        self.assert_same(write_message(Choice(1, (0, 1)), ()), (1,))
        self.assert_same(write_message(Choice(2, (3,)), []), (8,))

    def test_errors(self):
        for letters in SIZES:
            for bits in (None, (), (True,), [0] * 61):
                self.assert_error(EmptyChoice, {}, write_message, Choice(letters, ()), bits)
            for heaps in ((0,), (1,), (0, 1), tuple(range(2 ** letters))):
                choice = Choice(letters, heaps)
                for bad in NO_SEQUENCES:
                    self.assert_error(BadBits, {"index": 0}, write_message, choice, bad)
                for many in (61, 62, 500):
                    for bits in ([0] * many, (True,) * many):
                        self.assert_error(BadBits, {"index": 60}, write_message, choice, bits)
                for bad in NO_NUMBERS + (-1, 2):
                    for index in (0, 1, 59):
                        bits = [1] * index + [bad] + [bad] * (59 - index)
                        self.assert_error(BadBits, {"index": index}, write_message, choice, bits)
                        self.assert_error(BadBits, {"index": index}, write_message, choice, bits[:index + 1])


class ThereAndBack(Case):
    def test_all_lengths(self):
        source = chance(523)
        for letters in SIZES:
            for choice in [Choice(letters, (0,)), Choice(letters, (1,)), Choice(letters, (0, 1)),
                           Choice(letters, list(range(2 ** letters)))]:
                for many in range(61) if letters < 4 else range(0, 61, 5):
                    bits = some_bits(source, many)
                    words = write_message(choice, bits)
                    result = message_from(choice, words)
                    self.assert_alike(result, Message(bits, (0,) * len(words)))
                    self.assert_same((result.bits, result.mistakes), (bits, (0,) * len(words)))

    def test_bits_that_end_in_zeros_or_ones(self):
        choice = Choice(3, (0, 1, 2, 4))
        for bits in ((), (0,), (1,), (0, 0, 0, 0), (1, 1, 1, 1), (1, 0, 0), (0, 0, 1), (0,) * 60, (1,) * 60):
            words = write_message(choice, bits)
            self.assert_alike(message_from(choice, list(words)), Message(bits, (0,) * len(words)))

    def test_lost_and_wrong_places_up_to_what_is_sure(self):
        source = chance(524)
        met = set()
        for choice in some_choices(525, 8):
            places = range(2 ** choice.letters)
            for _ in range(4):
                lost = source.sample(places, source.randrange(len(places) + 1))
                if sure_wrong(choice, len(lost)) < 0:
                    lost = lost[:source.randrange(2 ** (choice.letters - choice.top_size))]
                bits = some_bits(source, source.randrange(20))
                words, mistakes = [], []
                for word in write_message(choice, bits):
                    kept = [place for place in places if place not in lost]
                    wrong = source.sample(kept, source.randrange(sure_wrong(choice, len(lost)) + 1))
                    words.append(word ^ marks(wrong) ^ (marks(lost) & source.getrandbits(len(places))))
                    mistakes.append(len(wrong))
                result = message_from(choice, words, lost)
                self.assert_alike(result, Message(bits, tuple(mistakes)))
                self.assert_same((result.bits, result.mistakes), (bits, tuple(mistakes)))
                met.add((bool(lost), any(mistakes)))
        self.assertEqual(len(met), 4)

    def test_each_number_of_wrong_places_that_is_sure(self):
        for letters in (3, 4, 5):
            choice = Choice(letters, (0, 1))
            for many in range(2 ** letters // 2):
                lost = list(range(many))
                most = sure_wrong(choice, many)
                words = [word ^ marks(range(many, many + most)) for word in write_message(choice, (1, 0, 1))]
                self.assert_alike(message_from(choice, words, lost), Message((1, 0, 1), (most,) * 2))

    def test_more_than_60_bits(self):
        source = chance(526)
        for letters in SIZES:
            choice = Choice(letters, list(range(2 ** letters)))
            words = [source.getrandbits(2 ** letters) for _ in range(60)] + [1]
            bits = [bit for word in words for bit in values_at(word, range(2 ** letters))]
            due = tuple(bits[:len(bits) - 2 ** letters])
            self.assert_alike(message_from(choice, words), Message(due, (0,) * 61))
        choice = Choice(5, (0,))
        self.assert_same(message_from(choice, [2 ** 32 - 1] * 61).bits, (1,) * 60)
        choice = Choice(5, (0, 1))
        self.assert_same(message_from(choice, [2 ** 32 - 1] * 61).bits, (1,) * 121)


class Breaking(Case):
    def test_broken_words(self):
        source = chance(527)
        met = set()
        for choice in some_choices(528, 8):
            places = range(2 ** choice.letters)
            for _ in range(6):
                words = [source.getrandbits(len(places)) for _ in range(source.randrange(1, 4))]
                words[:1] = write_message(choice, some_bits(source, source.randrange(4)))
                lost = source.sample(places, source.choice((0, 0, 1, 3)) % len(places))
                readings = [read_lossy(choice, word, lost) for word in words]
                bad = [index for index, told in enumerate(readings) if told is None or not told.sure]
                result = message_from(choice, words, lost)
                if bad:
                    self.assert_alike(result, Broken(bad[0], "word"))
                    self.assert_same((result.index, result.what), (bad[0], "word"))
                    met.add(readings[bad[0]] is None)
                    continue
                bits = [bit for told in readings for bit in values_at(told.word, choice.heaps)]
                if 1 not in bits[-choice.size:]:
                    self.assert_alike(result, Broken(len(words) - 1, "end"))
                    met.add("end")
                    continue
                while bits.pop() == 0:
                    continue
                self.assert_alike(result, Message(tuple(bits), tuple(len(told.wrong) for told in readings)))
                met.add("message")
        self.assertEqual(met, {True, False, "end", "message"})

    def test_words_that_are_read_but_not_surely(self):
        choice = Choice(2, (0,))
        self.assert_alike(message_from(choice, (15,), (0, 1, 2)), Message((), (0,)))
        self.assert_alike(message_from(choice, (15,), (0, 1, 2, 3)), Broken(0, "word"))
        self.assert_alike(message_from(choice, (15, 3, 3)), Broken(1, "word"))
        # A word that is broken is told ahead of an end that is missing.
        self.assert_alike(message_from(choice, (3, 0)), Broken(0, "word"))

    def test_the_end(self):
        choice = Choice(3, (0, 1, 2, 4))
        self.assert_alike(message_from(choice, (0,)), Broken(0, "end"))
        self.assert_alike(message_from(choice, (255, 0)), Broken(1, "end"))
        # The wrong place of the last word is corrected, so it still bears no 1.
        self.assert_alike(message_from(choice, (255, 255, 32)), Broken(2, "end"))
        self.assert_alike(message_from(choice, (0, 255)), Message((0, 0, 0, 0, 1, 1, 1), (0, 0)))

    def test_doubles_among_the_lost_places(self):
        choice = Choice(2, (0,))
        self.assert_alike(message_from(choice, [7], [3, 0, 3, 0, 3]), Message((), (0,)))

    def test_nothing_that_is_passed_in_is_changed(self):
        choice = Choice(3, (0, 1, 2, 4))
        bits, words, lost = [1, 0, 1], [255, 255], [3, 3, 1]
        write_message(choice, bits)
        message_from(choice, words, lost)
        self.assertEqual((bits, words, lost), ([1, 0, 1], [255, 255], [3, 3, 1]))


class Errors(Case):
    def test_the_empty_choice(self):
        for letters in SIZES:
            for words, lost in ((None, None), ((), ()), ((0,), ()), ((-1,), (99,))):
                self.assert_error(EmptyChoice, {}, message_from, Choice(letters, ()), words, lost)

    def test_how_many_words(self):
        for letters in SIZES:
            for heaps in ((0,), (0, 1)):
                choice = Choice(letters, heaps)
                full = 2 ** 2 ** letters - 1
                for bad in NO_SEQUENCES + ((), []):
                    self.assert_error(BadMessage, {}, message_from, choice, bad)
                    self.assert_error(BadMessage, {}, message_from, choice, bad, None)
                for many in (62, 63, 400):
                    for words in ([full] * many, (None,) * many):
                        self.assert_error(BadMessage, {}, message_from, choice, words)
                        self.assert_error(BadMessage, {}, message_from, choice, words, (-1,))
                self.assertIs(message_from(choice, [full] * 61).__class__, Message)
                self.assertIs(message_from(choice, (full,)).__class__, Message)

    def test_wrong_words_and_places(self):
        for letters in SIZES:
            choice = Choice(letters, (0,))
            for bad in NO_NUMBERS + (-1, 2 ** 2 ** letters):
                for index in (0, 1, 60):
                    words = [0] * index + [bad] + [bad] * (60 - index)
                    self.assert_error(BadWord, {"index": index}, message_from, choice, words, None)
                    self.assert_error(BadWord, {"index": index}, message_from, choice, tuple(words[:index + 1]))
            for words in ((0,), (1, 1)):
                for bad in NO_SEQUENCES:
                    self.assert_error(BadPlaces, {"index": 0}, message_from, choice, words, bad)
                for bad in NO_NUMBERS + (-1, 2 ** letters):
                    self.assert_error(BadPlaces, {"index": 1}, message_from, choice, words, [0, bad, bad])
                    self.assert_error(BadPlaces, {"index": 0}, message_from, choice, words, lost=(bad,))


if __name__ == "__main__":
    unittest.main()
