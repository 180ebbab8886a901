"""Houses written as texts and read back, and the line and word at which a text fails."""

import copy
import unittest
from itertools import permutations, product

from nobodystays.errors import BadHouse, BadLine, BadText
from nobodystays.groups import is_house
from nobodystays.turntexts import read_house, write_house
from tests.cases import Raising
from tests.samples import (
    EIGHT_ALL, EIGHT_EVEN, LOOSE, NOT_WHOLE, ONE_HALL, SEVEN_ALL, SHARP, SINGLE, SIX_TURNS, THREE, TWO,
    WRONG_HOUSES, all_houses, small_houses,
)

ALL_KINDS = SHARP + SINGLE + LOOSE + NOT_WHOLE + (ONE_HALL, SIX_TURNS, SEVEN_ALL, EIGHT_ALL, EIGHT_EVEN)
SEVEN_LINES = "halls 2" + "\nturn 10" * 6
NO_TEXTS = (
    None, True, False, 0, 2, (), ("halls 2\nturn 10",), [], ["halls 2", "turn 10"], {}, {"halls": 2}, (2, ((1, 0),)),
)
# Lines of texts of two halls: where each fails as the line of halls, and as one of a turn.
LINES = {
    "halls 2": (None, 1),
    "  halls   2  ": (None, 1),
    "halls": (2, 1),
    "halls 9": (2, 1),
    "halls 2 2": (3, 1),
    "turn 10": (1, None),
    " turn  01 ": (1, None),
    "turn": (1, 2),
    "turn 00 10": (1, 2),
    "turn 10 01": (1, 3),
    "2 halls": (1, 1),
    "": (0, 0),
    "   ": (0, 0),
}


def fault_of(lines):
    """The line and word at which lines of LINES fail, None for a house's."""
    told = 0
    for number, line in enumerate(lines, start=1):
        word = LINES[line][min(told, 1)]
        if word == 0:
            continue
        if told == 7:
            return (number, 1)
        if word is not None:
            return (number, word)
        told += 1
    return None if told > 1 else (len(lines) + 1, 1)


class Written(Raising):
    def test_text_of_a_house(self):
        self.assertEqual(write_house(THREE), "halls 3\nturn 120\nturn 021")
        self.assertEqual(write_house(ONE_HALL), "halls 1\nturn 0")
        self.assertEqual(write_house(TWO), "halls 2\nturn 10")
        self.assertEqual(write_house(EIGHT_ALL), "halls 8\nturn 12345670\nturn 10234567")
        self.assertEqual(
            write_house(SIX_TURNS), "halls 4\nturn 0123\nturn 1023\nturn 1023\nturn 0132\nturn 1032\nturn 0123",
        )

    def test_lines_and_words(self):
        for house in ALL_KINDS:
            lines = write_house(house).split("\n")
            with self.subTest(house=house):
                self.assertEqual(len(lines), len(house[1]) + 1)
                self.assertEqual(lines[0].split(" "), ["halls", str(house[0])])
                for line, turn in zip(lines[1:], house[1]):
                    word, halls = line.split(" ")
                    self.assertEqual(word, "turn")
                    self.assertEqual([int(hall) for hall in halls], list(turn))

    def test_wrong_houses(self):
        for house, part in WRONG_HOUSES:
            with self.subTest(house=house):
                before = copy.deepcopy(house)
                self.assertEqual(self.raised(BadHouse, write_house, house).part, part)
                self.assertEqual(house, before)

    def test_no_house_of_a_text(self):
        self.assertEqual(self.raised(BadHouse, write_house, "halls 2\nturn 10").part, "whole")


class ReadBack(unittest.TestCase):
    def assert_read(self, text, house):
        found = read_house(text)
        self.assertEqual(found, house)
        # A list or a boolean would be no house, though equal to one or shown alike.
        self.assertIs(is_house(found), True)

    def test_what_was_written(self):
        for house in small_houses()[::3] + list(ALL_KINDS):
            with self.subTest(house=house):
                self.assert_read(write_house(house), house)

    def test_each_number_of_halls_and_of_turns(self):
        for halls in range(1, 9):
            turns = tuple(permutations(range(halls)))
            for many in range(1, 7):
                chosen = tuple(turns[-1 - at * 7 % len(turns)] for at in range(many))
                with self.subTest(halls=halls, many=many):
                    self.assert_read(write_house((halls, chosen)), (halls, chosen))

    def test_all_turns(self):
        for halls in range(1, 6):
            for house in all_houses(halls, 1):
                self.assert_read(write_house(house), house)

    def test_spaces(self):
        for text in (
            " halls 2\nturn 10", "halls 2 \nturn 10 ", "halls    2\nturn     10", "    halls 2\n     turn 10",
            "   halls   2   \n   turn   10   ", "halls 2\nturn 10      ", "halls" + " " * 999 + "2\nturn 10",
        ):
            with self.subTest(text=text):
                self.assert_read(text, TWO)

    def test_void_lines(self):
        for text in (
            "\nhalls 2\nturn 10", "halls 2\n\nturn 10", "halls 2\nturn 10\n", "\n\n\nhalls 2\n\n\nturn 10\n\n\n",
            " \nhalls 2\n   \nturn 10\n  ", "\n \n  \n\n  halls 2\n\n \n turn  10 \n\n    \n",
            "\n" * 500 + "halls 2\nturn 10",
        ):
            with self.subTest(text=text):
                self.assert_read(text, TWO)

    def test_void_lines_behind_six_turns(self):
        for text in (SEVEN_LINES, SEVEN_LINES + "\n", SEVEN_LINES + "\n   \n\n"):
            with self.subTest(text=text):
                self.assert_read(text, (2, ((1, 0),) * 6))
        self.assert_read(SEVEN_LINES.replace("\n", "\n \n\n"), (2, ((1, 0),) * 6))


class WrongTexts(Raising):
    def assert_fault(self, text, line, word):
        with self.subTest(text=text):
            error = self.raised(BadLine, read_house, text)
            self.assertEqual((error.line, error.word), (line, word))

    def test_no_strings(self):
        for value in NO_TEXTS:
            with self.subTest(value=value):
                before = copy.deepcopy(value)
                self.raised(BadText, read_house, value)
                self.assertEqual(value, before)

    def test_first_word_that_cannot_stand(self):
        for word in (
            "hall", "Halls", "HALLS", "halls2", "halls:", "2", "turns", "x", "-", "#", "\"halls\"", "'halls'", "halls,",
        ):
            self.assert_fault(word + " 2\nturn 10", 1, 1)
            self.assert_fault("\n" + word, 2, 1)
        for word in ("turns", "Turn", "TURN", "turn10", "tur", "10", "x", "halls", "#", "'turn'", "turn:"):
            self.assert_fault("halls 2\n" + word + " 10", 2, 1)
            self.assert_fault("halls 2\nturn 10\n\n" + word, 4, 1)

    def test_turn_ahead_of_the_line_of_halls(self):
        self.assert_fault("turn 10", 1, 1)
        self.assert_fault("turn 10\nhalls 2", 1, 1)
        self.assert_fault("\n  \n turn 10\nhalls 2\nturn 10", 3, 1)
        self.assert_fault("turn", 1, 1)

    def test_second_line_of_halls(self):
        self.assert_fault("halls 2\nhalls 2\nturn 10", 2, 1)
        self.assert_fault("halls 2\nturn 10\nhalls 2", 3, 1)
        self.assert_fault("halls 2\nturn 10\nhalls 3\nturn 120", 3, 1)
        self.assert_fault("halls 2\n\nhalls", 3, 1)

    def test_number_of_halls(self):
        for word in (
            "0", "9", "10", "12", "02", "2.", "2,", "+2", "-2", "2.0", "1e0", "two", "x", "None", "True", "11111111",
            "1_", "\u0662", "\u00b2", "\uff12", "2\u00a0", "12345678", "34",
        ):
            self.assert_fault("halls " + word + "\nturn 10", 1, 2)
        self.assert_fault("halls  10 10\nturn 10", 1, 2)
        self.assert_fault("\n\n  halls   0  ", 3, 2)

    def test_halls_that_are_no_turn(self):
        for word in (
            "00", "11", "1", "0", "012", "100", "12", "20", "02", "0,1", "-0", "x", "1x", "01.", "+01", "halls",
            "(1,0)", "\u0661\u0660", "\uff11\uff10", "1\u00b9", "0123456789", "10" * 500,
        ):
            self.assert_fault("halls 2\nturn " + word, 2, 2)
            self.assert_fault("halls 2\nturn 10\n \n  turn  " + word + "  ", 4, 2)
        for halls, word in ((1, "1"), (1, "00"), (3, "123"), (3, "10"), (3, "1200"), (8, "1234567")):
            self.assert_fault(f"halls {halls}\nturn {word}", 2, 2)
        for word in ("12345678", "01234568", "01234566", "0123456789", "012345679"):
            self.assert_fault("halls 8\nturn " + word, 2, 2)

    def test_lacking_words(self):
        self.assert_fault("halls", 1, 2)
        self.assert_fault("  halls   ", 1, 2)
        self.assert_fault("\nhalls\n2\nturn 10", 2, 2)
        self.assert_fault("halls 2\nturn", 2, 2)
        self.assert_fault("halls 2\nturn   \n10", 2, 2)
        self.assert_fault("halls 2\nturn 10\n\nturn\n", 4, 2)

    def test_third_words(self):
        self.assert_fault("halls 2 2\nturn 10", 1, 3)
        self.assert_fault("halls 2 turn 10", 1, 3)
        self.assert_fault("halls 2 x y z\nturn 10", 1, 3)
        self.assert_fault("halls 2\nturn 10 10", 2, 3)
        self.assert_fault("halls 2\nturn 10 turn 10", 2, 3)
        self.assert_fault("halls 2\n\n turn  10  # ", 3, 3)
        self.assert_fault("halls 2\nturn 1 0", 2, 2)
        self.assert_fault("halls 2\nturn 10\nturn 01 .\nturn", 3, 3)

    def test_first_of_several_faults(self):
        self.assert_fault("halls 9 9\nturn", 1, 2)
        self.assert_fault("hall 9 9", 1, 1)
        self.assert_fault("halls 2 2\nturn 00 00", 1, 3)
        self.assert_fault("halls 2\nturn 00 00\nhalls", 2, 2)
        self.assert_fault("halls 2\nturns 00 00", 2, 1)

    def test_seventh_turn(self):
        for line in ("turn 10", "turn 00", "turn", "turn 10 10", "halls 2", "x"):
            self.assert_fault(SEVEN_LINES + "\n" + line, 8, 1)
            self.assert_fault(SEVEN_LINES + "\n\n   \n  " + line + "\nturn 10", 10, 1)
        self.assert_fault("halls 2" + "\nturn 10" * 5 + "\nturn 11\nturn 10", 7, 2)

    def test_without_the_line_of_halls(self):
        # Newlines part lines, so the empty text is one void line.
        self.assert_fault("", 2, 1)
        self.assert_fault(" ", 2, 1)
        self.assert_fault("\n", 3, 1)
        self.assert_fault("  \n \n   ", 4, 1)
        self.assert_fault("\n" * 100, 102, 1)

    def test_without_a_turn(self):
        self.assert_fault("halls 2", 2, 1)
        self.assert_fault("halls 2\n", 3, 1)
        self.assert_fault("\n\nhalls 2", 4, 1)
        self.assert_fault("halls 8\n \n  \n", 5, 1)

    def test_only_spaces_part_words_and_newlines_lines(self):
        self.assert_fault("halls\t2\nturn 10", 1, 1)
        self.assert_fault("halls 2\nturn\t10", 2, 1)
        self.assert_fault("halls 2\r\nturn 10", 1, 2)
        self.assert_fault("halls 2\nturn 10\r\n", 2, 2)
        self.assert_fault("halls 2\n\t\nturn 10", 2, 1)
        self.assert_fault("halls 2\nturn 10\n\r", 3, 1)
        self.assert_fault("halls 2\rturn 10", 1, 2)
        self.assert_fault("halls 2\n\u00a0turn 10", 2, 1)
        for sign in ("\x0b", "\x0c", "\x1c", "\x1d", "\x1e", "\x85", "\u2028", "\u2029", "\u3000"):
            self.assert_fault("halls 2" + sign + "turn 10", 1, 2)
            self.assert_fault("halls" + sign + "2\nturn 10", 1, 1)
            self.assert_fault("halls 2\nturn 10\n" + sign, 3, 1)

    def test_all_texts_of_up_to_four_lines(self):
        for many in range(1, 5):
            for lines in product(LINES, repeat=many):
                self.compare(lines)

    def test_texts_of_about_six_turns(self):
        for turns in (5, 6, 7):
            for one, other in product(LINES, repeat=2):
                self.compare(("halls 2", "") + (" turn  01 ",) * turns + (one, other))

    def compare(self, lines):
        """Read the lines, and compare with what the table of them tells."""
        expected = fault_of(lines)
        text = "\n".join(lines)
        if expected is None:
            words = [line.split() for line in lines if line.strip() != ""]
            turns = tuple(tuple(int(hall) for hall in told) for _, told in words[1:])
            self.assertEqual(read_house(text), (2, turns))
        else:
            with self.assertRaises(BadLine) as caught:
                read_house(text)
            self.assertEqual((caught.exception.line, caught.exception.word), expected, text)


if __name__ == "__main__":
    unittest.main()
