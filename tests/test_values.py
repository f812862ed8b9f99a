import unittest

from lazycols.errors import NoName
from lazycols.values import fault, is_fault, is_name, is_value, is_whole, settled
from things import SIXTY, SIXTY_ONE, no_names, no_values, no_wholes

ODD = ("fault", "odd")
WHOLES = [0, 1, -1, 7, SIXTY, -SIXTY, SIXTY_ONE, -SIXTY_ONE, 10 ** 5000]
NUMBERS = [0, 1, -1, 7, -42, 10 ** 59, -(10 ** 59), SIXTY, -SIXTY]
NAMES = ["a", "z", "m", "ab", "name", "abcdefgh", "zzzzzzzz", "fault", "odd"]


class IsWhole(unittest.TestCase):
    def test_ints_of_any_size_are_whole(self):
        for thing in WHOLES:
            self.assertIs(is_whole(thing), True)

    def test_truths_are_no_whole_numbers(self):
        self.assertIs(is_whole(True), False)
        self.assertIs(is_whole(False), False)

    def test_nothing_else_is_whole(self):
        for thing in no_wholes():
            self.assertIs(is_whole(thing), False)


class IsName(unittest.TestCase):
    def test_one_to_eight_small_letters(self):
        for thing in NAMES:
            self.assertIs(is_name(thing), True)

    def test_every_small_letter_may_stand_in_a_name(self):
        for number in range(ord("a"), ord("z") + 1):
            self.assertIs(is_name(chr(number)), True)

    def test_no_other_sign_may(self):
        for number in range(0x500):
            if not ord("a") <= number <= ord("z"):
                for text in [chr(number), "a" + chr(number), chr(number) + "a", "a" + chr(number) + "a"]:
                    self.assertIs(is_name(text), False)

    def test_nothing_else_is_a_name(self):
        for thing in no_names():
            self.assertIs(is_name(thing), False)


class IsFault(unittest.TestCase):
    def test_the_word_and_a_name(self):
        for word in NAMES:
            self.assertIs(is_fault(("fault", word)), True)

    def test_nothing_else_is_a_fault(self):
        for thing in no_values() + NUMBERS + WHOLES + NAMES:
            self.assertIs(is_fault(thing), False)

    def test_no_other_word_makes_a_fault(self):
        for word in no_names():
            self.assertIs(is_fault(("fault", word)), False)
            self.assertIs(is_fault((word, "odd")), False)


class IsValue(unittest.TestCase):
    def test_numbers_of_at_most_sixty_figures(self):
        for thing in NUMBERS:
            self.assertIs(is_value(thing), True)

    def test_the_sixty_first_figure_is_too_much(self):
        self.assertEqual(len(str(SIXTY)), 60)
        self.assertEqual(len(str(SIXTY_ONE)), 61)
        self.assertIs(is_value(SIXTY_ONE), False)
        self.assertIs(is_value(-SIXTY_ONE), False)

    def test_faults(self):
        for word in NAMES:
            self.assertIs(is_value(("fault", word)), True)

    def test_nothing_else_is_a_value(self):
        for thing in no_values():
            self.assertIs(is_value(thing), False)


class MakingFaults(unittest.TestCase):
    def test_a_fault_of_a_word(self):
        for word in NAMES:
            self.assertEqual(fault(word), ("fault", word))
            self.assertIsInstance(fault(word), tuple)

    def test_no_name_is_refused(self):
        for word in no_names():
            with self.assertRaises(NoName):
                fault(word)


class Settled(unittest.TestCase):
    def test_a_value_is_itself(self):
        for thing in NUMBERS + [("fault", word) for word in NAMES]:
            self.assertIs(settled(thing), thing)

    def test_all_else_is_odd(self):
        for thing in no_values():
            self.assertEqual(settled(thing), ODD)

    def test_truths_are_odd(self):
        self.assertEqual(settled(True), ODD)
        self.assertEqual(settled(False), ODD)


if __name__ == "__main__":
    unittest.main()
