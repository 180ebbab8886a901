"""Point 3 of the document, as nobodystays.stays has it."""

import unittest
from itertools import permutations

from nobodystays.errors import BadTurn
from nobodystays.groups import order, parts, rank
from nobodystays.stays import rings, stayers, table
from tests.samples import (
    EIGHT_ALL, FOUR, LAME, ONE_HALL, RING_OF_EIGHT, SEVEN_ALL, SIX_TURNS, THREE, group_of, small_houses,
)


def kept(turn):
    """How many halls a turn leaves in place."""
    return sum(1 for hall in range(len(turn)) if turn[hall] == hall)


def ring_from(turn, hall):
    """How many steps of a turn lead a hall back to itself."""
    at = turn[hall]
    steps = 1
    while at != hall:
        at = turn[at]
        steps += 1
    return steps


class Examples(unittest.TestCase):
    def test_all_turns_of_four_halls(self):
        house = (4, ((1, 2, 3, 0), (1, 0, 2, 3)))
        self.assertEqual(
            [table(house), stayers(house, (1, 0, 2, 3)), rings(house, (1, 0, 2, 3))],
            [(9, 8, 6, 0, 1), (2, 3), (1, 1, 2)],
        )

    def test_no_turn(self):
        with self.assertRaises(BadTurn):
            stayers((2, ((1, 0),)), (0, 0))


class Stayers(unittest.TestCase):
    def test_all_turns(self):
        for house in (ONE_HALL, THREE, FOUR, LAME, SIX_TURNS):
            for turn in permutations(range(house[0])):
                wanted = tuple(hall for hall in range(house[0]) if turn[hall] == hall)
                with self.subTest(house=house, turn=turn):
                    self.assertEqual(stayers(house, turn), wanted)

    def test_edges(self):
        self.assertEqual(stayers(ONE_HALL, (0,)), (0,))
        self.assertEqual(stayers(RING_OF_EIGHT, RING_OF_EIGHT[1][0]), ())
        self.assertEqual(stayers(RING_OF_EIGHT, tuple(range(8))), (0, 1, 2, 3, 4, 5, 6, 7))

    def test_turn_outside_the_group(self):
        self.assertEqual(stayers((4, ((1, 0, 2, 3),)), (0, 2, 1, 3)), (0, 3))


class Rings(unittest.TestCase):
    def test_all_turns(self):
        for house in (ONE_HALL, THREE, FOUR, LAME, SIX_TURNS):
            for turn in permutations(range(house[0])):
                steps = [ring_from(turn, hall) for hall in range(house[0])]
                wanted = []
                for length in sorted(set(steps)):
                    wanted += [length] * (steps.count(length) // length)
                with self.subTest(house=house, turn=turn):
                    self.assertEqual(rings(house, turn), tuple(wanted))

    def test_edges(self):
        self.assertEqual(rings(ONE_HALL, (0,)), (1,))
        self.assertEqual(rings(RING_OF_EIGHT, RING_OF_EIGHT[1][0]), (8,))
        self.assertEqual(rings(RING_OF_EIGHT, tuple(range(8))), (1, 1, 1, 1, 1, 1, 1, 1))

    def test_lengths_ascend(self):
        self.assertEqual(rings(EIGHT_ALL, (1, 2, 3, 0, 4, 6, 7, 5)), (1, 3, 4))
        self.assertEqual(rings(EIGHT_ALL, (0, 2, 1, 4, 3, 6, 7, 5)), (1, 2, 2, 3))

    def test_turn_outside_the_group(self):
        self.assertEqual(rings((4, ((1, 0, 2, 3),)), (0, 2, 3, 1)), (1, 3))


class Table(unittest.TestCase):
    def test_small_groups(self):
        for house in small_houses():
            counts = [0] * (house[0] + 1)
            for turn in group_of(house):
                counts[kept(turn)] += 1
            with self.subTest(house=house):
                self.assertEqual(table(house), tuple(counts))

    def test_edges(self):
        self.assertEqual(table(ONE_HALL), (0, 1))
        self.assertEqual(table(RING_OF_EIGHT), (7, 0, 0, 0, 0, 0, 0, 0, 1))
        self.assertEqual(table((3, ((0, 1, 2),))), (0, 0, 0, 1))

    def test_sums_are_turns_times_parts_and_rank(self):
        for house in small_houses() + [SEVEN_ALL]:
            counts = table(house)
            with self.subTest(house=house):
                self.assertEqual(sum(counts), order(house))
                halls = sum(many * count for many, count in enumerate(counts))
                squares = sum(many * many * count for many, count in enumerate(counts))
                self.assertEqual(halls, order(house) * len(parts(house)))
                self.assertEqual(squares, order(house) * rank(house))


class Answers(unittest.TestCase):
    def test_answers_are_tuples_of_integers(self):
        for house in (ONE_HALL, THREE, LAME):
            turn = house[1][0]
            for answer in (table(house), rings(house, turn), stayers(house, tuple(range(house[0])))):
                self.assertIs(answer.__class__, tuple)
                self.assertEqual({number.__class__ for number in answer}, {int})

    def test_equal_arguments_have_equal_answers(self):
        self.assertEqual(table(FOUR), table((4, tuple(tuple(list(turn)) for turn in FOUR[1]))))
        self.assertEqual(table(FOUR), table(FOUR))


if __name__ == "__main__":
    unittest.main()
