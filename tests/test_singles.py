"""Point 5 of the document, as nobodystays.singles has it."""

import unittest

from nobodystays.errors import NotSingle, NotWhole
from nobodystays.groups import is_transitive
from nobodystays.singles import core, core_is_group, is_single, surplus
from tests.samples import (
    FIVE_FLIPPED, FOUR, FOUR_FLIPPED, LOOSE, RING_OF_EIGHT, SEVEN_ALL, SHARP, SINGLE, THREE, TWO,
    group_of, joined, renamed, small_houses, whole_houses,
)


def kept(turn):
    """How many halls a turn leaves in place."""
    return sum(1 for hall, to in enumerate(turn) if hall == to)


def houses_to_try():
    """Houses of at least two halls whose turns lead each hall to each."""
    houses = [house for house in small_houses() if house[0] > 1 and is_transitive(house)]
    return houses + whole_houses()


class Examples(unittest.TestCase):
    def test_five_and_four_halls(self):
        ring, four = (5, ((1, 2, 3, 4, 0), (0, 4, 3, 2, 1))), (4, ((1, 2, 3, 0), (1, 0, 2, 3)))
        self.assertEqual(
            [is_single(ring), surplus(ring), core(ring)[1], core_is_group(ring), is_single(four), surplus(four)],
            [True, 0, (1, 2, 3, 4, 0), True, False, 6],
        )

    def test_two_lots(self):
        with self.assertRaises(NotWhole):
            core((3, ((1, 0, 2),)))


class Surplus(unittest.TestCase):
    def test_against_the_groups(self):
        for house in houses_to_try():
            wanted = sum(1 for turn in group_of(house) if kept(turn) == 0) - (house[0] - 1)
            with self.subTest(house=house):
                self.assertEqual(surplus(house), wanted)
                self.assertGreaterEqual(wanted, 0)

    def test_single_numbers(self):
        self.assertEqual(surplus(TWO), 0)
        self.assertEqual(surplus(THREE), 0)
        self.assertEqual(surplus(FOUR_FLIPPED), 2)
        self.assertEqual(surplus(RING_OF_EIGHT), 0)
        self.assertEqual(surplus(SEVEN_ALL), 1848)

    def test_is_an_integer(self):
        self.assertIs(surplus(TWO).__class__, int)


class Single(unittest.TestCase):
    def test_against_the_groups(self):
        for house in houses_to_try():
            wanted = all(kept(turn) in (0, 1, house[0]) for turn in group_of(house))
            with self.subTest(house=house):
                self.assertIs(is_single(house), wanted)
                self.assertIs(is_single(house), surplus(house) == 0)

    def test_single_houses(self):
        for house in SHARP + SINGLE:
            with self.subTest(house=house):
                self.assertIs(is_single(house), True)

    def test_others(self):
        for house in LOOSE + (SEVEN_ALL,):
            with self.subTest(house=house):
                self.assertIs(is_single(house), False)


class Core(unittest.TestCase):
    def test_against_the_groups(self):
        for house in houses_to_try():
            if is_single(house):
                group = group_of(house)
                wanted = tuple(sorted(turn for turn in group if kept(turn) in (0, house[0])))
                with self.subTest(house=house):
                    self.assertEqual(core(house), wanted)
                    self.assertEqual(len(wanted), house[0])

    def test_whole_values(self):
        self.assertEqual(core(TWO), ((0, 1), (1, 0)))
        self.assertEqual(core(THREE), ((0, 1, 2), (1, 2, 0), (2, 0, 1)))
        self.assertEqual(
            core(FIVE_FLIPPED),
            ((0, 1, 2, 3, 4), (1, 2, 3, 4, 0), (2, 3, 4, 0, 1), (3, 4, 0, 1, 2), (4, 0, 1, 2, 3)),
        )

    def test_halls_called_otherwise(self):
        ring = renamed((4, ((1, 2, 3, 0),)), (0, 2, 1, 3))
        self.assertEqual(core(ring), ((0, 1, 2, 3), (1, 0, 3, 2), (2, 3, 1, 0), (3, 2, 0, 1)))

    def test_not_single(self):
        for house in LOOSE + (SEVEN_ALL,):
            for function in (core, core_is_group):
                with self.subTest(house=house, function=function.__name__), self.assertRaises(NotSingle) as caught:
                    function(house)
                self.assertIs(caught.exception.__class__, NotSingle)

    def test_two_of_a_core_make_one(self):
        for house in houses_to_try():
            if is_single(house):
                turns = core(house)
                with self.subTest(house=house):
                    self.assertIs(core_is_group(house), True)
                    self.assertEqual({joined(first, second) for first in turns for second in turns}, set(turns))

    def test_kinds_of_values(self):
        for house in SHARP:
            found = core(house)
            self.assertIs(found.__class__, tuple)
            for turn in found:
                self.assertIs(turn.__class__, tuple)
                self.assertEqual({hall.__class__ for hall in turn}, {int})

    def test_equal_arguments_have_equal_answers(self):
        again = (5, tuple(tuple(list(turn)) for turn in FIVE_FLIPPED[1]))
        for function in (surplus, is_single, core, core_is_group):
            self.assertEqual(function(FIVE_FLIPPED), function(again))
            self.assertEqual(function(FIVE_FLIPPED), function(FIVE_FLIPPED))

    def test_only_the_group_counts(self):
        alike = (4, ((1, 0, 2, 3), (0, 1, 2, 3), (2, 1, 0, 3), (3, 1, 2, 0), (3, 1, 2, 0)))
        self.assertEqual(surplus(alike), surplus(FOUR))
        self.assertIs(is_single(alike), False)


if __name__ == "__main__":
    unittest.main()
