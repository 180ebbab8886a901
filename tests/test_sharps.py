"""Sharp houses: the one returned for each number of halls, and which values are shown sharp."""

import copy
import unittest

from nobodystays.errors import BadNumber
from nobodystays.groups import is_house
from nobodystays.roamers import is_sharp
from nobodystays.sharps import sharp_house, shows_sharp
from tests.cases import Raising
from tests.samples import (
    EIGHT_ALL, EIGHT_EVEN, LOOSE, NOT_WHOLE, SEVEN_ALL, SHARP, SINGLE, THREE, WRONG_HOUSES, all_houses,
    group_of, renamed, whole_houses,
)

HALLS = (2, 3, 4, 5, 6, 7, 8)
WITH_A_SHARP_HOUSE = (2, 3, 4, 5, 7, 8)
NO_NUMBERS = (
    1, 9, 0, -1, -2, 10, 10 ** 40, -10 ** 40, True, False, None, "2", "", "6", (), (2,), [], [2], {}, {2: 2},
)
NO_HOUSES = tuple(value for value, _ in WRONG_HOUSES) + (
    "halls 2\nturn 10", 6, (None,), (None, None), [None], ((1, 0),), ((1, 2, 0), (0, 2, 1)),
    [3, ((1, 2, 0), (0, 2, 1))], [3, [[1, 2, 0], [0, 2, 1]]], (3, [(1, 2, 0), (0, 2, 1)]),
    (3, ([1, 2, 0], [0, 2, 1])), (True, ((1, 0),)), (2, ((True, False),)), (2, ((1, 0),), None),
)


def leads_sharply(house):
    """Whether just one turn of the group leads any two unlike halls to any two, by going over all."""
    halls = house[0]
    pairs = [(first, second) for first in range(halls) for second in range(halls) if first != second]
    led = [(pair, (turn[pair[0]], turn[pair[1]])) for turn in group_of(house) for pair in pairs]
    return len(led) == len(set(led)) == len(pairs) ** 2


class SharpHouses(Raising):
    def test_there_is_one_of_each_number_of_halls_but_six(self):
        self.assertEqual([halls for halls in HALLS if sharp_house(halls) is None], [6])

    def test_it_is_a_sharp_house_of_so_many_halls(self):
        for halls in WITH_A_SHARP_HOUSE:
            with self.subTest(halls):
                house = sharp_house(halls)
                self.assertIs(is_house(house), True)
                self.assertEqual(house[0], halls)
                self.assertIs(leads_sharply(house), True)
                self.assertIs(is_sharp(house), True)

    def test_it_is_shown(self):
        for halls in HALLS:
            with self.subTest(halls):
                self.assertIs(shows_sharp(halls, sharp_house(halls)), True)

    def test_it_is_shown_for_no_other_number(self):
        for halls in HALLS:
            for other in HALLS:
                if other != halls:
                    with self.subTest(halls=halls, other=other):
                        self.assertIs(shows_sharp(other, sharp_house(halls)), False)

    def test_wrong_numbers(self):
        for number in NO_NUMBERS:
            with self.subTest(number=number):
                before = copy.deepcopy(number)
                self.raised(BadNumber, sharp_house, number)
                self.assertEqual(number, before)


class ShownSharp(Raising):
    def test_sharp_houses(self):
        for house in SHARP:
            with self.subTest(house=house):
                self.assertIs(shows_sharp(house[0], house), True)

    def test_halls_called_otherwise(self):
        for house in SHARP + tuple(sharp_house(halls) for halls in WITH_A_SHARP_HOUSE):
            halls = house[0]
            for shift in range(halls):
                names = tuple((hall * (halls - 1) + shift) % halls for hall in range(halls))
                with self.subTest(house=house, names=names):
                    self.assertIs(shows_sharp(halls, renamed(house, names)), True)

    def test_turns_in_another_order_or_twice(self):
        for halls, turns in SHARP:
            still = tuple(range(halls))
            for others in (turns[::-1], turns + turns, turns * 3, turns + (still,), (still,) * 4 + turns):
                with self.subTest(halls=halls, turns=others):
                    self.assertIs(shows_sharp(halls, (halls, others)), True)

    def test_other_turns_that_make_a_sharp_group(self):
        # Each hall is led to so many times its number and so many more, by the halls' number.
        for halls, times in ((3, 2), (5, 2), (5, 3), (7, 3), (7, 5)):
            first = tuple(hall * times % halls for hall in range(halls))
            second = tuple((hall * times + 1) % halls for hall in range(halls))
            with self.subTest(halls=halls, times=times):
                self.assertIs(shows_sharp(halls, (halls, (first, second))), True)
                self.assertIs(shows_sharp(halls, (halls, (first,))), False)
                self.assertIs(shows_sharp(halls, (halls, (second,))), False)

    def test_houses_that_are_not_sharp(self):
        for house in SINGLE + LOOSE + NOT_WHOLE:
            if house[0] > 1:
                with self.subTest(house=house):
                    self.assertIs(shows_sharp(house[0], house), False)

    def test_small_houses_as_by_going_over_all(self):
        for halls, many in ((2, 1), (2, 2), (2, 3), (3, 1), (3, 2), (3, 3), (4, 1), (4, 2)):
            for house in all_houses(halls, many):
                with self.subTest(house=house):
                    self.assertIs(shows_sharp(halls, house), leads_sharply(house))

    def test_whole_houses_as_by_going_over_all(self):
        for house in whole_houses():
            with self.subTest(house=house):
                self.assertIs(shows_sharp(house[0], house), leads_sharply(house))

    def test_no_house_of_six_halls(self):
        # A sharp house of six halls would have a turn that rings five of them, and this one and
        # any turn that moves the sixth one would make all of its group.
        ring = (1, 2, 3, 4, 0, 5)
        for _, (turn,) in all_houses(6, 1):
            if turn[5] != 5:
                with self.subTest(turn=turn):
                    self.assertIs(shows_sharp(6, (6, (ring, turn))), False)

    def test_none(self):
        for halls in HALLS:
            with self.subTest(halls):
                self.assertIs(shows_sharp(halls, None), halls == 6)

    def test_another_number_of_halls(self):
        for house in SHARP + ((1, ((0,),)),):
            for halls in HALLS:
                if halls != house[0]:
                    with self.subTest(halls=halls, house=house):
                        self.assertIs(shows_sharp(halls, house), False)

    def test_several_lots_of_halls(self):
        self.assertIs(shows_sharp(3, (3, ((1, 0, 2),))), False)
        self.assertIs(shows_sharp(2, (2, ((0, 1),))), False)
        self.assertIs(shows_sharp(8, (8, ((1, 0, 3, 2, 5, 4, 7, 6), (0, 1, 3, 2, 4, 5, 7, 6)))), False)
        # A sharp group of seven halls beside an eighth one has as many turns as pairs of seven.
        self.assertIs(shows_sharp(8, (8, ((1, 2, 3, 4, 5, 6, 0, 7), (0, 3, 6, 2, 5, 1, 4, 7)))), False)

    def test_large_groups(self):
        for house in (SEVEN_ALL, EIGHT_ALL, EIGHT_EVEN):
            for halls in HALLS:
                with self.subTest(halls=halls, house=house):
                    self.assertIs(shows_sharp(halls, house), False)

    def test_any_value(self):
        for value in NO_HOUSES:
            for halls in HALLS:
                with self.subTest(halls=halls, value=value):
                    before = copy.deepcopy(value)
                    self.assertIs(shows_sharp(halls, value), value is None and halls == 6)
                    self.assertEqual(value, before)

    def test_wrong_numbers_whatever_the_value(self):
        for number in NO_NUMBERS:
            for value in (THREE, None, sharp_house(2), True, (), [number]):
                with self.subTest(number=number, value=value):
                    self.raised(BadNumber, shows_sharp, number, value)

    def test_true_is_no_number_of_a_house_of_one_hall(self):
        self.raised(BadNumber, shows_sharp, True, (1, ((0,),)))
        self.raised(BadNumber, shows_sharp, 1, (1, ((0,),)))


if __name__ == "__main__":
    unittest.main()
