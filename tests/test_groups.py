"""Point 2 and point 3 of the document, as nobodystays.groups has them."""

import unittest
from itertools import permutations, product

from nobodystays.errors import BadHouse
from nobodystays.groups import (
    is_house, is_member, is_transitive, likes, made, members, order, parts, rank,
)
from tests.samples import (
    EIGHT_ALL, FOUR, LAME, ONE_HALL, RING_OF_EIGHT, SEVEN_ALL, SIX_TURNS, THREE,
    group_of, joined, small_houses, taken_back,
)


def lots_of(things, led):
    """The set of the lots of things that those of led, a list of mappings, lead to one another."""
    return {tuple(sorted({to(thing) for to in led})) for thing in things}


class Examples(unittest.TestCase):
    def test_all_turns_of_three_halls(self):
        house = (3, ((1, 2, 0), (0, 2, 1)))
        self.assertEqual(
            [order(house), members(house)[:2], rank(house), likes(house, (1, 0, 2)), made(house, (0, 1))],
            [6, ((0, 1, 2), (0, 2, 1)), 2, ((0, 2, 1), (1, 0, 2), (2, 1, 0)), (2, 1, 0)],
        )

    def test_one_swap_of_four_halls(self):
        house = (4, ((1, 0, 2, 3),))
        self.assertEqual(
            [parts(house), is_transitive(house), is_member(house, (0, 1, 3, 2))],
            [((0, 1), (2,), (3,)), False, False],
        )

    def test_no_turn(self):
        with self.assertRaises(BadHouse) as caught:
            members((2, ((0, 0),)))
        self.assertEqual(caught.exception.part, "turns")


class Houses(unittest.TestCase):
    def test_is_house(self):
        eight_halls_six_turns = (8, RING_OF_EIGHT[1] * 6)
        for house in (ONE_HALL, THREE, FOUR, LAME, SIX_TURNS, SEVEN_ALL, EIGHT_ALL, eight_halls_six_turns):
            with self.subTest(house=house):
                self.assertIs(is_house(house), True)

    def test_all_numbers_of_halls_and_turns(self):
        for halls in range(-1, 11):
            for many in range(9):
                house = (halls, (tuple(range(halls)),) * many)
                with self.subTest(house=house):
                    self.assertIs(is_house(house), 1 <= halls <= 8 and 1 <= many <= 6)

    def test_turns_lead_to_all_halls(self):
        for turn in product(range(-1, 4), repeat=3):
            with self.subTest(turn=turn):
                self.assertIs(is_house((3, (turn,))), sorted(turn) == [0, 1, 2])


class Made(unittest.TestCase):
    def test_void_row(self):
        self.assertEqual(made(ONE_HALL, ()), (0,))
        self.assertEqual(made(FOUR, ()), (0, 1, 2, 3))
        self.assertEqual(made(RING_OF_EIGHT, ()), (0, 1, 2, 3, 4, 5, 6, 7))

    def test_one_behind_another(self):
        self.assertEqual(made(THREE, (0, 1)), (2, 1, 0))
        self.assertEqual(made(THREE, (1, 0)), (1, 0, 2))
        self.assertEqual(made(FOUR, (0, 0, 1)), (2, 3, 1, 0))
        self.assertEqual(made(FOUR, (1, 0, 0)), (3, 2, 0, 1))

    def test_halls_are_followed_through_all_short_rows(self):
        for house in (THREE, FOUR, LAME, SIX_TURNS):
            for row in product(range(len(house[1])), repeat=3):
                at = list(range(house[0]))
                for number in row:
                    at = [house[1][number][hall] for hall in at]
                with self.subTest(house=house, row=row):
                    self.assertEqual(made(house, row), tuple(at))

    def test_hundred_numbers(self):
        self.assertEqual(made(RING_OF_EIGHT, (0,) * 100), (4, 5, 6, 7, 0, 1, 2, 3))
        self.assertEqual(made(SIX_TURNS, (5,) * 99 + (1,)), (1, 0, 2, 3))
        self.assertEqual(made(EIGHT_ALL, (0,) * 100), (4, 5, 6, 7, 0, 1, 2, 3))

    def test_all_of_six_turns(self):
        for number in range(6):
            self.assertEqual(made(SIX_TURNS, (number,)), SIX_TURNS[1][number])


class Members(unittest.TestCase):
    def test_small_groups(self):
        for house in small_houses():
            group = group_of(house)
            with self.subTest(house=house):
                self.assertEqual(members(house), tuple(sorted(group)))
                self.assertEqual(order(house), len(group))

    def test_one_hall(self):
        self.assertEqual(members(ONE_HALL), ((0,),))
        self.assertEqual(order(ONE_HALL), 1)
        self.assertIs(is_member(ONE_HALL, (0,)), True)

    def test_eight_halls(self):
        self.assertEqual(members(RING_OF_EIGHT)[:2], ((0, 1, 2, 3, 4, 5, 6, 7), (1, 2, 3, 4, 5, 6, 7, 0)))
        self.assertEqual(order(RING_OF_EIGHT), 8)

    def test_alike_turns_add_nothing(self):
        self.assertEqual(members((3, ((1, 2, 0),) * 6)), ((0, 1, 2), (1, 2, 0), (2, 0, 1)))

    def test_still_turn_alone(self):
        self.assertEqual(members((3, ((0, 1, 2),))), ((0, 1, 2),))

    def test_is_member_of_all_turns(self):
        for house in (THREE, FOUR, LAME, SIX_TURNS, (4, ((1, 0, 2, 3),)), (4, ((1, 2, 3, 0),))):
            group = group_of(house)
            for turn in permutations(range(house[0])):
                with self.subTest(house=house, turn=turn):
                    self.assertIs(is_member(house, turn), turn in group)


class Parts(unittest.TestCase):
    def test_small_groups(self):
        for house in small_houses():
            halls = range(house[0])
            led = [turn.__getitem__ for turn in group_of(house)]
            lots = lots_of(halls, led)
            with self.subTest(house=house):
                self.assertEqual(parts(house), tuple(sorted(lots)))
                self.assertIs(is_transitive(house), len(lots) == 1)

    def test_lots_across_one_another(self):
        self.assertEqual(parts((6, ((5, 3, 2, 4, 1, 0),))), ((0, 5), (1, 3, 4), (2,)))

    def test_one_hall(self):
        self.assertEqual(parts(ONE_HALL), ((0,),))
        self.assertIs(is_transitive(ONE_HALL), True)

    def test_eight_halls(self):
        self.assertEqual(parts(RING_OF_EIGHT), ((0, 1, 2, 3, 4, 5, 6, 7),))
        self.assertIs(is_transitive(RING_OF_EIGHT), True)
        still = (8, ((0, 1, 2, 3, 4, 5, 6, 7),))
        self.assertEqual(parts(still), ((0,), (1,), (2,), (3,), (4,), (5,), (6,), (7,)))
        self.assertIs(is_transitive(still), False)


class Rank(unittest.TestCase):
    def test_small_groups(self):
        for house in small_houses():
            pairs = list(product(range(house[0]), repeat=2))
            led = [lambda pair, turn=turn: (turn[pair[0]], turn[pair[1]]) for turn in group_of(house)]
            with self.subTest(house=house):
                self.assertEqual(rank(house), len(lots_of(pairs, led)))

    def test_edges(self):
        self.assertEqual(rank(ONE_HALL), 1)
        self.assertEqual(rank((2, ((0, 1),))), 4)
        self.assertEqual(rank(RING_OF_EIGHT), 8)
        self.assertEqual(rank(SEVEN_ALL), 2)
        self.assertEqual(rank((8, ((0, 1, 2, 3, 4, 5, 6, 7),))), 64)


class Likes(unittest.TestCase):
    def test_of_all_turns_of_the_halls(self):
        houses = [house for house in small_houses() if len(house[1]) == 1 or house[0] < 4]
        for house in houses + [FOUR, LAME, SIX_TURNS, (4, ((1, 2, 3, 0), (2, 1, 0, 3)))]:
            if house[0] > 5:
                continue
            group = group_of(house)
            for turn in permutations(range(house[0])):
                wanted = {joined(joined(taken_back(by), turn), by) for by in group}
                with self.subTest(house=house, turn=turn):
                    self.assertEqual(likes(house, turn), tuple(sorted(wanted)))

    def test_by_a_part_of_all_turns(self):
        house = (4, ((1, 2, 0, 3), (1, 0, 2, 3)))
        self.assertEqual(likes((3, ((1, 2, 0),)), (1, 0, 2)), ((0, 2, 1), (1, 0, 2), (2, 1, 0)))
        self.assertEqual(likes(house, (0, 1, 3, 2)), ((0, 1, 3, 2), (0, 3, 2, 1), (3, 1, 2, 0)))

    def test_turn_outside_the_group(self):
        house = (4, ((1, 0, 2, 3),))
        self.assertIs(is_member(house, (0, 2, 1, 3)), False)
        self.assertEqual(likes(house, (0, 2, 1, 3)), ((0, 2, 1, 3), (2, 1, 0, 3)))

    def test_one_hall_and_still_turn(self):
        self.assertEqual(likes(ONE_HALL, (0,)), ((0,),))
        self.assertEqual(likes(SEVEN_ALL, (0, 1, 2, 3, 4, 5, 6)), ((0, 1, 2, 3, 4, 5, 6),))
        self.assertEqual(likes(RING_OF_EIGHT, RING_OF_EIGHT[1][0]), RING_OF_EIGHT[1])


class Answers(unittest.TestCase):
    def test_equal_arguments_have_equal_answers(self):
        again = (3, tuple(tuple(list(turn)) for turn in THREE[1]))
        for function in (members, order, parts, rank, is_transitive):
            self.assertEqual(function(THREE), function(again))
            self.assertEqual(function(THREE), function(THREE))

    def test_answers_are_tuples_of_integers(self):
        for house in (ONE_HALL, THREE, FOUR, LAME):
            turn = house[1][0]
            for answer in (members(house), parts(house), likes(house, turn), (made(house, (0,)), made(house, ()))):
                self.assertIs(answer.__class__, tuple)
                for inner in answer:
                    self.assertIs(inner.__class__, tuple)
                    self.assertEqual({hall.__class__ for hall in inner}, {int})
            for number in (order(house), rank(house)):
                self.assertIs(number.__class__, int)


if __name__ == "__main__":
    unittest.main()
