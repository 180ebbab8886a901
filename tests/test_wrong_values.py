"""What functions of one house say of wrong arguments, of large groups and of several lots."""

import copy
import unittest

from nobodystays.errors import BadHouse, BadRow, BadTurn, NotWhole, TooMany
from nobodystays.groups import (
    is_house, is_member, is_transitive, likes, made, members, order, parts, rank,
)
from nobodystays.roamers import (
    count_roamers, has_fewest, is_sharp, least_roamer, plain_roamers, roamers, spare,
)
from nobodystays.seats import Seats
from nobodystays.singles import core, core_is_group, is_single, surplus
from nobodystays.stays import rings, stayers, table
from nobodystays.turntexts import write_house
from tests.cases import Raising
from tests.samples import (
    EIGHT_ALL, EIGHT_EVEN, NOT_WHOLE, SEVEN_ALL, SEVEN_OF_EIGHT, THREE, WRONG_HOUSES, WRONG_TURNS,
)

OF_MEMBERS = (members, order, table, roamers, plain_roamers, count_roamers, least_roamer)
OF_MEMBERS_OF_A_LOT = (spare, has_fewest, surplus, is_single, core, core_is_group)
OF_A_LOT = OF_MEMBERS_OF_A_LOT + (is_sharp,)
OF_A_HOUSE = (is_transitive, parts, rank, Seats, write_house) + OF_MEMBERS + OF_A_LOT
OF_A_TURN = (is_member, likes, rings, stayers)
# What a wrong row is, for a house of two turns, and the index that it is told by.
WRONG_ROWS = (
    (None, None), (True, None), (False, None), (0, None), (5, None), ("", None), ("01", None),
    ([], None), ([0, 1], None), ({}, None), ({0: 1}, None), ((0,) * 101, None), ((9,) * 101, None),
    ((2,), 0), ((-1,), 0), ((True,), 0), ((False,), 0), ((None,), 0), (("0",), 0), (((0,),), 0),
    (([0],), 0), (({},), 0), ((10 ** 40,), 0), ((0, 2), 1), ((0, True), 1), ((1, 0, False, 0), 2),
    ((0, 1, -1, 7), 2), ((1,) * 99 + (2,), 99), ((0, None, None), 1),
)


class WrongArguments(Raising):
    def test_wrong_houses(self):
        for house, part in WRONG_HOUSES:
            for function in OF_A_HOUSE:
                with self.subTest(house=house, function=function.__name__):
                    self.assertEqual(self.raised(BadHouse, function, house).part, part)

    def test_wrong_houses_come_ahead_of_what_follows(self):
        for house, part in WRONG_HOUSES:
            for function in OF_A_TURN + (made,):
                for second in ((1, 2, 0), (), None, [0], True):
                    with self.subTest(house=house, function=function.__name__, second=second):
                        self.assertEqual(self.raised(BadHouse, function, house, second).part, part)

    def test_wrong_turns(self):
        for turn in WRONG_TURNS:
            for function in OF_A_TURN:
                with self.subTest(turn=turn, function=function.__name__):
                    self.raised(BadTurn, function, THREE, turn)

    def test_true_and_false_are_no_halls(self):
        for function in OF_A_TURN:
            with self.subTest(function.__name__):
                self.raised(BadTurn, function, (1, ((0,),)), (False,))
                self.raised(BadTurn, function, (2, ((1, 0),)), (True, False))

    def test_wrong_rows(self):
        for row, index in WRONG_ROWS:
            with self.subTest(row=row):
                self.assertEqual(self.raised(BadRow, made, THREE, row).index, index)

    def test_numbers_of_a_row_are_those_of_the_house(self):
        self.assertEqual(self.raised(BadRow, made, (3, ((1, 2, 0),)), (0, 1)).index, 1)
        self.assertEqual(self.raised(BadRow, made, (2, ((1, 0),) * 6), (5, 6)).index, 1)

    def test_is_house_of_wrong_values(self):
        for value, _ in WRONG_HOUSES:
            with self.subTest(value=value):
                self.assertIs(is_house(value), False)

    def test_wrong_arguments_are_not_modified(self):
        for function in OF_A_HOUSE + (is_house,):
            house = [3, [[1, 2, 0], [0, 2, 1]]]
            before = copy.deepcopy(house)
            if function is is_house:
                function(house)
            else:
                self.raised(BadHouse, function, house)
            self.assertEqual(house, before)
        for function in OF_A_TURN:
            turn = [2, 0, 1]
            self.raised(BadTurn, function, THREE, turn)
            self.assertEqual(turn, [2, 0, 1])
        row = [1, 0]
        self.raised(BadRow, made, THREE, row)
        self.assertEqual(row, [1, 0])


class SeveralLots(unittest.TestCase):
    def test_not_whole(self):
        for house in NOT_WHOLE:
            for function in OF_A_LOT:
                with self.subTest(house=house, function=function.__name__):
                    with self.assertRaises(NotWhole) as caught:
                        function(house)
                    self.assertIs(caught.exception.__class__, NotWhole)

    def test_two_halls_are_enough(self):
        for function in OF_A_LOT:
            with self.subTest(function=function.__name__):
                function((2, ((1, 0),)))


class LargeGroups(unittest.TestCase):
    def test_too_many(self):
        for house in (EIGHT_ALL, EIGHT_EVEN):
            for function in OF_MEMBERS + OF_MEMBERS_OF_A_LOT:
                with self.subTest(function.__name__), self.assertRaises(TooMany) as caught:
                    function(house)
                self.assertEqual(caught.exception.most, 5040)

    def test_too_many_for_a_turn_in_the_group(self):
        for house in (EIGHT_ALL, EIGHT_EVEN):
            for turn in house[1] + (tuple(range(8)), (1, 0, 2, 3, 4, 5, 6, 7)):
                with self.subTest(turn=turn), self.assertRaises(TooMany) as caught:
                    is_member(house, turn)
                self.assertEqual(caught.exception.most, 5040)

    def test_too_many_comes_behind_wrong_arguments(self):
        for turn in WRONG_TURNS:
            with self.subTest(turn=turn), self.assertRaises(BadTurn):
                is_member(EIGHT_ALL, turn)

    def test_others_answer_of_all_turns(self):
        ring, swap = EIGHT_ALL[1]
        self.assertIs(is_house(EIGHT_ALL), True)
        self.assertEqual(made(EIGHT_ALL, (0, 1)), (0, 2, 3, 4, 5, 6, 7, 1))
        self.assertEqual(parts(EIGHT_ALL), ((0, 1, 2, 3, 4, 5, 6, 7),))
        self.assertIs(is_transitive(EIGHT_ALL), True)
        self.assertEqual(rank(EIGHT_ALL), 2)
        self.assertEqual(len(likes(EIGHT_ALL, swap)), 28)
        self.assertEqual(len(likes(EIGHT_ALL, ring)), 5040)
        self.assertEqual(stayers(EIGHT_ALL, swap), (2, 3, 4, 5, 6, 7))
        self.assertEqual(rings(EIGHT_ALL, swap), (1, 1, 1, 1, 1, 1, 2))
        self.assertIs(is_sharp(EIGHT_ALL), False)

    def test_likes_may_be_more_than_5040(self):
        found = likes(EIGHT_ALL, (1, 2, 3, 4, 5, 6, 0, 7))
        self.assertEqual(len(found), 5760)
        self.assertEqual(list(found), sorted(set(found)))

    def test_others_answer_of_the_even_turns(self):
        first, second = EIGHT_EVEN[1]
        self.assertIs(is_house(EIGHT_EVEN), True)
        self.assertEqual(made(EIGHT_EVEN, (1, 0)), (1, 2, 3, 4, 5, 0, 7, 6))
        self.assertEqual(parts(EIGHT_EVEN), ((0, 1, 2, 3, 4, 5, 6, 7),))
        self.assertIs(is_transitive(EIGHT_EVEN), True)
        self.assertEqual(rank(EIGHT_EVEN), 2)
        # The even turns part the turns with a ring of seven in two lots.
        self.assertEqual(len(likes(EIGHT_EVEN, first)), 2880)
        self.assertEqual(stayers(EIGHT_EVEN, second), (0, 1, 2, 3, 4))
        self.assertEqual(rings(EIGHT_EVEN, first), (1, 7))
        self.assertIs(is_sharp(EIGHT_EVEN), False)

    def test_5040_are_not_too_many(self):
        for house in (SEVEN_ALL, SEVEN_OF_EIGHT):
            found = members(house)
            self.assertEqual(len(found), 5040)
            self.assertEqual(list(found), sorted(set(found)))
            self.assertEqual(order(house), 5040)
            self.assertIs(is_member(house, house[1][0]), True)
        self.assertIs(is_member(SEVEN_OF_EIGHT, (0, 1, 2, 3, 4, 5, 7, 6)), False)
        self.assertEqual(table(SEVEN_ALL), (1854, 1855, 924, 315, 70, 21, 0, 1))
        self.assertEqual(table(SEVEN_OF_EIGHT), (0, 1854, 1855, 924, 315, 70, 21, 0, 1))


if __name__ == "__main__":
    unittest.main()
