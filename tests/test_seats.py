"""Seats: persons led by turns, done and taken back."""

import unittest

from nobodystays import seats as module
from nobodystays.errors import BadHouse, BadNumber, BadStep
from nobodystays.groups import made
from nobodystays.seats import Seats
from nobodystays.stays import stayers
from tests.cases import Raising
from tests.samples import (
    EIGHT_ALL, EIGHT_EVEN, FOUR, LAME, LOOSE, NOT_WHOLE, ONE_HALL, SHARP, SINGLE, SIX_TURNS, THREE, TWO,
    WRONG_HOUSES, small_houses,
)

ALL_KINDS = SHARP + SINGLE + LOOSE + NOT_WHOLE + (EIGHT_ALL, EIGHT_EVEN, SIX_TURNS)
NO_LETTERS = (None, True, False, "", "0", (), (0,), [], [0], {}, {0: 0}, -1, -2, 10 ** 40, -10 ** 40)


def letters_for(house, many):
    """A row of numbers of a house's turns that uses all of them, in no plain order."""
    return tuple((at * at + at // 3) % len(house[1]) for at in range(many))


def led(house, row):
    """The halls where the persons come to by a row, by moving them one by one."""
    where = list(range(house[0]))
    for number in row:
        for person in range(house[0]):
            where[person] = house[1][number][where[person]]
    return tuple(where)


class SeatsCase(Raising):
    def assert_state(self, seats, house, row):
        """The persons are where a row leads them."""
        where = led(house, row)
        self.assertEqual(seats.row, tuple(row))
        self.assertIs(type(seats.row), tuple)
        self.assertEqual(seats.where, where)
        self.assertIs(type(seats.where), tuple)
        self.assertEqual(seats.stayers(), tuple(person for person in range(house[0]) if where[person] == person))


class DoneAndTakenBack(SeatsCase):
    def test_all_are_at_home_at_first(self):
        for house in ALL_KINDS:
            with self.subTest(house=house):
                seats = Seats(house)
                self.assertEqual(seats.row, ())
                self.assertEqual(seats.where, tuple(range(house[0])))
                self.assertEqual(seats.stayers(), tuple(range(house[0])))

    def test_a_turn_leads_whoever_is_in_a_hall(self):
        seats = Seats(THREE)
        seats.do(0)
        self.assertEqual(seats.where, (1, 2, 0))
        # Persons 0 and 1 are in halls 1 and 2, which turn 1 exchanges.
        seats.do(1)
        self.assertEqual(seats.where, (2, 1, 0))
        self.assertEqual(seats.stayers(), (1,))
        self.assertEqual(seats.row, (0, 1))

    def test_turns_and_back_again(self):
        for house in ALL_KINDS:
            with self.subTest(house=house):
                seats = Seats(house)
                row = letters_for(house, 12)
                for at, letter in enumerate(row):
                    self.assertIsNone(seats.do(letter))
                    self.assert_state(seats, house, row[:at + 1])
                for at in reversed(range(len(row))):
                    self.assertIsNone(seats.undo())
                    self.assert_state(seats, house, row[:at])
                self.raised(BadStep, seats.undo)

    def test_as_made_tells(self):
        for house in small_houses()[::17] + list(ALL_KINDS):
            row = letters_for(house, 9)
            seats = Seats(house)
            for letter in row:
                seats.do(letter)
            with self.subTest(house=house):
                self.assertEqual(seats.where, made(house, row))
                self.assertEqual(seats.stayers(), stayers(house, made(house, row)))

    def test_turns_between_those_taken_back(self):
        for house in (TWO, THREE, FOUR, LAME, SIX_TURNS):
            seats = Seats(house)
            row = []
            for at in range(60):
                if at % 5 in (2, 3) and row:
                    row.pop()
                    self.assertIsNone(seats.undo())
                else:
                    row.append(at * 7 % len(house[1]))
                    self.assertIsNone(seats.do(row[-1]))
                with self.subTest(house=house, at=at):
                    self.assert_state(seats, house, row)

    def test_taking_back_what_is_not_its_own_undoing(self):
        seats = Seats(FOUR)
        for letter in (0, 0, 1):
            seats.do(letter)
        seats.undo()
        self.assertEqual(seats.where, (2, 3, 0, 1))
        seats.undo()
        self.assertEqual(seats.where, (1, 2, 3, 0))
        seats.do(1)
        self.assertEqual(seats.where, (0, 2, 3, 1))

    def test_a_still_turn_is_a_step(self):
        seats = Seats((2, ((0, 1), (1, 0))))
        seats.do(0)
        seats.do(0)
        self.assertEqual(seats.row, (0, 0))
        self.assertEqual(seats.stayers(), (0, 1))
        seats.undo()
        self.assertEqual(seats.row, (0,))

    def test_alike_turns_keep_their_numbers(self):
        seats = Seats((2, ((1, 0), (1, 0), (1, 0))))
        for letter in (2, 0, 1):
            seats.do(letter)
        self.assertEqual(seats.row, (2, 0, 1))

    def test_one_hall(self):
        seats = Seats(ONE_HALL)
        self.raised(BadStep, seats.undo)
        seats.do(0)
        self.assert_state(seats, ONE_HALL, (0,))
        seats.undo()
        self.assert_state(seats, ONE_HALL, ())
        self.raised(BadStep, seats.undo)

    def test_many_steps(self):
        for house in (ONE_HALL, THREE, SIX_TURNS, EIGHT_ALL):
            seats = Seats(house)
            row = letters_for(house, 1000)
            for at, letter in enumerate(row):
                seats.do(letter)
                if at in (98, 99, 100, 101, 500):
                    self.assert_state(seats, house, row[:at + 1])
            self.assert_state(seats, house, row)
            for _ in range(950):
                seats.undo()
            self.assert_state(seats, house, row[:50])

    def test_each_number_of_turns(self):
        for many in range(1, 7):
            turns = ((1, 2, 0), (0, 2, 1), (1, 0, 2), (2, 1, 0), (2, 0, 1), (0, 1, 2))[:many]
            for letter in range(many):
                seats = Seats((3, turns))
                seats.do(letter)
                self.assertEqual(seats.where, turns[letter])
            self.raised(BadNumber, Seats((3, turns)).do, many)

    def test_objects_stand_apart(self):
        first, second = Seats(THREE), Seats(THREE)
        first.do(0)
        self.assert_state(second, THREE, ())
        second.do(1)
        self.assert_state(first, THREE, (0,))
        self.assert_state(second, THREE, (1,))

    def test_what_was_told_stays_as_it_was(self):
        seats = Seats(THREE)
        seats.do(0)
        row, where, stay = seats.row, seats.where, seats.stayers()
        seats.do(1)
        seats.undo()
        seats.undo()
        self.assertEqual((row, where, stay), ((0,), (1, 2, 0), ()))

    def test_asking_changes_nothing(self):
        seats = Seats(FOUR)
        seats.do(1)
        for _ in range(3):
            self.assert_state(seats, FOUR, (1,))
        seats.undo()
        self.raised(BadStep, seats.undo)


class WrongSteps(SeatsCase):
    def test_no_step_to_take_back(self):
        for house in ALL_KINDS:
            seats = Seats(house)
            self.raised(BadStep, seats.undo)
            self.assert_state(seats, house, ())
            seats.do(0)
            seats.undo()
            for _ in range(3):
                self.raised(BadStep, seats.undo)
            self.assert_state(seats, house, ())
            seats.do(0)
            self.assert_state(seats, house, (0,))

    def test_wrong_letters_change_nothing(self):
        for house in (ONE_HALL, TWO, THREE, SIX_TURNS, EIGHT_ALL):
            many = len(house[1])
            seats = Seats(house)
            row = ()
            for letter in NO_LETTERS + (many, many + 1, house[0] + many):
                with self.subTest(house=house, letter=letter):
                    self.raised(BadNumber, seats.do, letter)
                    self.assert_state(seats, house, row)
                seats.do(many - 1)
                row = row + (many - 1,)

    def test_wrong_letters_are_not_modified(self):
        seats = Seats(THREE)
        for letter, same in (([0], [0]), ({0: [1]}, {0: [1]})):
            self.raised(BadNumber, seats.do, letter)
            self.assertEqual(letter, same)

    def test_wrong_houses(self):
        for house, part in WRONG_HOUSES:
            with self.subTest(house=house):
                self.assertEqual(self.raised(BadHouse, Seats, house).part, part)


class Interface(unittest.TestCase):
    def test_methods_and_properties_stand_in_the_class(self):
        self.assertEqual(Seats.__module__, module.__name__)
        for name in ("__init__", "do", "undo", "stayers"):
            self.assertTrue(callable(vars(Seats)[name]), name)
        for name in ("row", "where"):
            self.assertIsInstance(vars(Seats)[name], property)

    def test_properties_are_not_assigned(self):
        seats = Seats(THREE)
        for name in ("row", "where"):
            with self.assertRaises(AttributeError):
                setattr(seats, name, ())


if __name__ == "__main__":
    unittest.main()
