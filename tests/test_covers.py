"""Point 6 of the document, as nobodystays.covers has it."""

import copy
import unittest
from itertools import permutations

from nobodystays.covers import count_covered, is_within, shows_uncovered, uncovered
from nobodystays.errors import BadHouse, NotWithin, TooMany, Unlike
from tests.cases import Raising
from tests.samples import (
    EIGHT_ALL, EIGHT_EVEN, EIGHT_SHARP, FIVE_EVEN, FIVE_FLIPPED, FIVE_SHARP, FOUR, FOUR_EVEN, FOUR_FLIPPED, LAME,
    ONE_HALL, RING_OF_EIGHT, SEVEN_ALL, SEVEN_OF_EIGHT, SEVEN_SHARP, SIX_OF_SIXTY, THREE, TWO, WRONG_HOUSES,
    WRONG_TURNS, all_houses, group_of, joined, renamed, taken_back,
)

FIVE_ALL = (5, ((1, 2, 3, 4, 0), (1, 0, 2, 3, 4)))
FOUR_HOUSES = (
    FOUR,
    FOUR_EVEN,
    FOUR_FLIPPED,
    renamed(FOUR_FLIPPED, (0, 2, 1, 3)),
    (4, ((0, 1, 2, 3),)),
    (4, ((1, 2, 3, 0),)),
    (4, ((1, 2, 0, 3),)),
    (4, ((0, 2, 3, 1),)),
    (4, ((1, 2, 0, 3), (1, 0, 2, 3))),
    (4, ((1, 0, 3, 2), (2, 3, 0, 1))),
    (4, ((1, 0, 3, 2),)),
    (4, ((2, 3, 0, 1),)),
    (4, ((1, 0, 2, 3),)),
    (4, ((1, 0, 2, 3), (0, 1, 3, 2))),
)
FIVE_HOUSES = (
    FIVE_ALL,
    FIVE_EVEN,
    FIVE_SHARP,
    FIVE_FLIPPED,
    LAME,
    (5, ((0, 1, 2, 3, 4),)),
    (5, ((1, 2, 3, 4, 0),)),
    (5, ((0, 2, 3, 1, 4), (0, 2, 1, 4, 3))),
)
# Houses whose group is the same, though their turns are others.
SAME_GROUPS = (
    (ONE_HALL, (1, ((0,),) * 6)),
    (TWO, (2, ((0, 1), (1, 0)))),
    (THREE, (3, ((1, 0, 2), (2, 1, 0)))),
    (FOUR, (4, ((1, 0, 2, 3), (0, 2, 1, 3), (0, 1, 3, 2)))),
    (RING_OF_EIGHT, (8, ((3, 4, 5, 6, 7, 0, 1, 2),))),
    (FIVE_FLIPPED, (5, ((4, 3, 2, 1, 0), (0, 4, 3, 2, 1)))),
)
OF_TWO = (is_within, count_covered, uncovered)


def shows_none(house, part):
    """What shows_uncovered says of None."""
    return shows_uncovered(house, part, None)


def likes_within(house, part):
    """The turns of the house's group with a like in the part's one, tried one by one."""
    group, inner = group_of(house), group_of(part)
    covered = set()
    for turn in group:
        if any(joined(joined(taken_back(by), turn), by) in inner for by in group):
            covered.add(turn)
    return covered


def pairs_to_try():
    """Pairs of houses with equally many halls."""
    small = [ONE_HALL] + all_houses(2, 1) + all_houses(2, 2) + all_houses(3, 1) + all_houses(3, 2)
    pairs = [(house, part) for house in small for part in small if house[0] == part[0]]
    pairs += [(house, part) for house in FOUR_HOUSES for part in FOUR_HOUSES]
    pairs += [(house, part) for house in FIVE_HOUSES for part in FIVE_HOUSES]
    return pairs + list(SAME_GROUPS)


class Examples(unittest.TestCase):
    def test_three_halls(self):
        three, part = (3, ((1, 2, 0), (0, 2, 1))), (3, ((0, 2, 1),))
        shown = shows_uncovered(three, part, uncovered(three, part))
        self.assertEqual(
            [is_within(three, part), count_covered(three, part), shown, uncovered(three, three)],
            [True, 4, True, None],
        )

    def test_no_part(self):
        with self.assertRaises(NotWithin):
            uncovered((3, ((1, 2, 0),)), (3, ((1, 0, 2),)))


class Parts(unittest.TestCase):
    def test_against_the_groups(self):
        for house, part in pairs_to_try():
            with self.subTest(house=house, part=part):
                self.assertIs(is_within(house, part), group_of(part) <= group_of(house))

    def test_no_parts(self):
        for house, part in pairs_to_try():
            if not group_of(part) <= group_of(house):
                for function in (count_covered, uncovered, shows_none):
                    with self.subTest(house=house, part=part), self.assertRaises(NotWithin) as caught:
                        function(house, part)
                    self.assertIs(caught.exception.__class__, NotWithin)

    def test_halls_called_otherwise(self):
        part = (4, ((1, 0, 2, 3),))
        house = (4, ((1, 0, 2, 3), (0, 1, 3, 2)))
        names = (2, 0, 1, 3)
        self.assertIs(is_within(house, part), True)
        self.assertIs(is_within(renamed(house, names), renamed(part, names)), True)
        self.assertIs(is_within(house, renamed(part, names)), False)
        with self.assertRaises(NotWithin):
            count_covered(house, renamed(part, names))

    def test_eight_halls(self):
        self.assertIs(is_within(RING_OF_EIGHT, (8, ((2, 3, 4, 5, 6, 7, 0, 1),))), True)
        self.assertIs(is_within((8, ((2, 3, 4, 5, 6, 7, 0, 1),)), RING_OF_EIGHT), False)
        self.assertIs(is_within(EIGHT_SHARP, RING_OF_EIGHT), False)
        self.assertIs(is_within(SEVEN_ALL, SEVEN_SHARP), True)
        self.assertIs(is_within(SEVEN_SHARP, SEVEN_ALL), False)


class Covered(unittest.TestCase):
    def test_against_the_groups(self):
        for house, part in pairs_to_try():
            if group_of(part) <= group_of(house):
                covered = likes_within(house, part)
                with self.subTest(house=house, part=part):
                    self.assertEqual(count_covered(house, part), len(covered))

    def test_likes_are_by_the_group_of_the_house(self):
        # All turns of five halls would lead each ring of five to each, the even ones do not.
        ring = (5, ((1, 2, 3, 4, 0),))
        self.assertEqual(count_covered(FIVE_ALL, ring), 25)
        self.assertEqual(count_covered(FIVE_EVEN, ring), 25)
        self.assertEqual(count_covered(FIVE_SHARP, ring), 5)
        self.assertEqual(count_covered(FOUR_EVEN, (4, ((1, 2, 0, 3),))), 9)
        self.assertEqual(count_covered((4, ((1, 0, 3, 2), (2, 3, 0, 1))), (4, ((1, 0, 3, 2),))), 2)

    def test_still_turn_alone(self):
        for house in (ONE_HALL, TWO, THREE, FOUR, SIX_OF_SIXTY, SEVEN_ALL):
            still = (house[0], (tuple(range(house[0])),))
            with self.subTest(house=house):
                self.assertEqual(count_covered(house, still), 1)

    def test_all_of_large_groups(self):
        self.assertEqual(count_covered(SEVEN_ALL, SEVEN_ALL), 5040)
        self.assertEqual(count_covered(SEVEN_OF_EIGHT, SEVEN_OF_EIGHT), 5040)
        self.assertEqual(count_covered(SEVEN_ALL, SEVEN_SHARP), 1 + 720 + 105 + 280 + 840)

    def test_is_an_integer(self):
        self.assertIs(count_covered(ONE_HALL, ONE_HALL).__class__, int)


class Uncovered(unittest.TestCase):
    def test_against_the_groups(self):
        for house, part in pairs_to_try():
            group = group_of(house)
            if group_of(part) <= group:
                found = uncovered(house, part)
                with self.subTest(house=house, part=part):
                    if group_of(part) == group:
                        self.assertIsNone(found)
                    else:
                        self.assertIs(found.__class__, tuple)
                        self.assertIn(found, group - likes_within(house, part))
                    self.assertIs(shows_uncovered(house, part, found), True)
                    self.assertEqual(uncovered(house, part), found)

    def test_same_groups(self):
        for house, part in SAME_GROUPS + ((SEVEN_ALL, SEVEN_ALL), (SEVEN_OF_EIGHT, SEVEN_OF_EIGHT)):
            with self.subTest(house=house, part=part):
                self.assertIs(is_within(house, part), True)
                self.assertIsNone(uncovered(house, part))
                self.assertIs(shows_uncovered(house, part, None), True)
                self.assertIs(shows_uncovered(house, part, house[1][0]), False)

    def test_large_groups(self):
        for part in (SEVEN_SHARP, (7, ((1, 2, 0, 3, 4, 5, 6), (2, 3, 4, 5, 6, 0, 1)))):
            found = uncovered(SEVEN_ALL, part)
            with self.subTest(part=part):
                self.assertIs(shows_uncovered(SEVEN_ALL, part, found), True)
                self.assertIs(shows_uncovered(SEVEN_ALL, part, tuple(range(7))), False)
                self.assertIs(shows_uncovered(SEVEN_ALL, part, None), False)

    def test_kinds_of_halls(self):
        self.assertEqual({hall.__class__ for hall in uncovered(FOUR, FOUR_EVEN)}, {int})


class Shown(unittest.TestCase):
    def test_all_turns_and_none(self):
        for house, part in pairs_to_try():
            group = group_of(house)
            if group_of(part) <= group and house[0] < 5:
                lonely = group - likes_within(house, part)
                with self.subTest(house=house, part=part):
                    self.assertIs(shows_uncovered(house, part, None), not lonely)
                    for turn in permutations(range(house[0])):
                        self.assertIs(shows_uncovered(house, part, turn), turn in lonely)

    def test_any_value(self):
        part = (3, ((0, 2, 1),))
        values = list(WRONG_TURNS) + [value for value, _ in WRONG_HOUSES] + [THREE, ((1, 2, 0),), b"120"]
        for value in values:
            if value is not None:
                with self.subTest(value=value):
                    self.assertIs(shows_uncovered(THREE, part, value), False)
                    self.assertIs(shows_uncovered(THREE, THREE, value), False)
        self.assertIs(shows_uncovered(THREE, part, None), False)
        self.assertIs(shows_uncovered(THREE, THREE, None), True)
        for turn in ((1, 2, 0), (2, 0, 1)):
            self.assertIs(shows_uncovered(THREE, part, turn), True)

    def test_true_and_false_are_no_halls(self):
        still = (2, ((0, 1),))
        self.assertIs(shows_uncovered(TWO, still, (1, 0)), True)
        for value in ((True, False), (1, False), (True, 0), [1, 0], (1, 0, 2), (1,), (0, 1), "10", {1: 0, 0: 1}):
            with self.subTest(value=value):
                self.assertIs(shows_uncovered(TWO, still, value), False)
        self.assertIs(shows_uncovered(ONE_HALL, ONE_HALL, (0,)), False)
        self.assertIs(shows_uncovered(ONE_HALL, ONE_HALL, (False,)), False)

    def test_turns_outside_the_group(self):
        house, part = (4, ((1, 2, 3, 0),)), (4, ((2, 3, 0, 1),))
        self.assertIs(shows_uncovered(house, part, (1, 2, 3, 0)), True)
        self.assertIs(shows_uncovered(house, part, (3, 0, 1, 2)), True)
        for turn in ((2, 3, 0, 1), (0, 1, 2, 3), (1, 0, 3, 2), (1, 3, 0, 2)):
            self.assertIs(shows_uncovered(house, part, turn), False)


class WrongArguments(Raising):
    def test_wrong_house(self):
        for house, fault in WRONG_HOUSES:
            for function in OF_TWO + (shows_none,):
                for part in (THREE, FOUR, EIGHT_ALL, None, (0, ()), (2, ((0, 0),))):
                    with self.subTest(function=function.__name__, house=house, part=part):
                        self.assertEqual(self.raised(BadHouse, function, house, part).part, fault)

    def test_wrong_part(self):
        for part, fault in WRONG_HOUSES:
            for function in OF_TWO + (shows_none,):
                for house in (THREE, ONE_HALL, EIGHT_ALL):
                    with self.subTest(function=function.__name__, house=house, part=part):
                        self.assertEqual(self.raised(BadHouse, function, house, part).part, fault)

    def test_unlike(self):
        pairs = ((THREE, FOUR), (FOUR, THREE), (ONE_HALL, TWO), (RING_OF_EIGHT, SEVEN_ALL), (SEVEN_ALL, RING_OF_EIGHT))
        # Unlike comes ahead of TooMany, whichever of both houses is too large.
        pairs += ((EIGHT_ALL, SEVEN_ALL), (SEVEN_ALL, EIGHT_ALL), (EIGHT_EVEN, THREE), (ONE_HALL, EIGHT_EVEN))
        for house, part in pairs:
            for function in OF_TWO + (shows_none,):
                with self.subTest(function=function.__name__, house=house, part=part):
                    self.raised(Unlike, function, house, part)

    def test_too_many(self):
        pairs = (
            (EIGHT_ALL, EIGHT_ALL), (EIGHT_ALL, RING_OF_EIGHT), (EIGHT_EVEN, EIGHT_SHARP),
            (EIGHT_ALL, (8, (tuple(range(8)),))), (EIGHT_EVEN, EIGHT_ALL),
            # TooMany comes ahead of NotWithin.
            (RING_OF_EIGHT, EIGHT_ALL), (SEVEN_OF_EIGHT, EIGHT_EVEN), (EIGHT_EVEN, RING_OF_EIGHT),
        )
        for house, part in pairs:
            for function in OF_TWO + (shows_none,):
                with self.subTest(function=function.__name__, house=house, part=part):
                    self.assertEqual(self.raised(TooMany, function, house, part).most, 5040)

    def test_errors_whatever_stands_last(self):
        for value in (None, 5, (), (1, 2, 0), [1], {}, "x", True):
            with self.subTest(value=value):
                self.assertEqual(self.raised(BadHouse, shows_uncovered, (0, ()), None, value).part, "halls")
                self.assertEqual(self.raised(BadHouse, shows_uncovered, THREE, None, value).part, "whole")
                self.raised(Unlike, shows_uncovered, THREE, FOUR, value)
                self.raised(TooMany, shows_uncovered, EIGHT_ALL, RING_OF_EIGHT, value)
                self.raised(NotWithin, shows_uncovered, (3, ((1, 2, 0),)), THREE, value)

    def test_arguments_are_not_modified(self):
        value = [2, [0, 1]]
        self.assertIs(shows_uncovered(THREE, THREE, value), False)
        self.assertEqual(value, [2, [0, 1]])
        for function in OF_TWO + (shows_none,):
            house = [3, [[1, 2, 0]]]
            before = copy.deepcopy(house)
            self.raised(BadHouse, function, house, THREE)
            self.raised(BadHouse, function, THREE, house)
            self.assertEqual(house, before)


if __name__ == "__main__":
    unittest.main()
