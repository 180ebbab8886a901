"""Point 4 of the document, as nobodystays.roamers has it."""

import unittest
from itertools import permutations

from nobodystays.errors import NotWhole
from nobodystays.groups import is_transitive, order, rank
from nobodystays.roamers import (
    count_roamers, has_fewest, is_sharp, least_roamer, plain_roamers, roamers, spare,
)
from nobodystays.stays import table
from tests.samples import (
    EIGHT_ALL, EIGHT_EVEN, FIVE_EVEN, FOUR, FOUR_FLIPPED, LAME, LOOSE, NOT_WHOLE, ONE_HALL, RING_OF_EIGHT,
    SEVEN_ALL, SEVEN_OF_EIGHT, SHARP, SINGLE, SIX_TURNS, THREE, TWO, group_of, renamed, small_houses,
    whole_houses,
)


def moved_all(group):
    """The ascending tuple of the turns of a group that lead each hall elsewhere."""
    return tuple(sorted(turn for turn in group if all(to != hall for hall, to in enumerate(turn))))


def lengths_of_rings(turn):
    """The set of the lengths of a turn's rings."""
    lengths = set()
    for hall, at in enumerate(turn):
        steps = 1
        while at != hall:
            at = turn[at]
            steps += 1
        lengths.add(steps)
    return lengths


def of_one_prime(lengths):
    """Whether there is a prime of which all lengths, at most 8, are powers."""
    powers = ({1, 2, 4, 8}, {1, 3}, {1, 5}, {1, 7})
    return any(lengths <= some for some in powers)


def leads_pairs_once(house):
    """Whether each two unlike halls are led to each two by just one turn, counted one by one."""
    group = group_of(house)
    pairs = list(permutations(range(house[0]), 2))
    for first, second in pairs:
        led = sorted((turn[first], turn[second]) for turn in group)
        if led != pairs:
            return False
    return True


class Examples(unittest.TestCase):
    def test_three_and_four_halls(self):
        three, four = (3, ((1, 2, 0), (0, 2, 1))), (4, ((1, 2, 3, 0), (1, 0, 2, 3)))
        self.assertEqual(
            [roamers(three), is_sharp(three), has_fewest(three), count_roamers(four), spare(four), least_roamer(four)],
            [((1, 2, 0), (2, 0, 1)), True, True, 9, 12, (1, 0, 3, 2)],
        )

    def test_no_plain_roamers(self):
        lame = (5, ((1, 2, 0, 3, 4), (0, 1, 2, 4, 3)))
        self.assertEqual([count_roamers(lame), plain_roamers(lame)], [2, ()])

    def test_two_lots(self):
        with self.assertRaises(NotWhole):
            spare((3, ((1, 0, 2),)))


class Roamers(unittest.TestCase):
    def test_against_the_groups(self):
        for house in small_houses() + whole_houses() + list(NOT_WHOLE[:-1]):
            wanted = moved_all(group_of(house))
            with self.subTest(house=house):
                self.assertEqual(roamers(house), wanted)
                self.assertEqual(count_roamers(house), len(wanted))
                self.assertEqual(least_roamer(house), wanted[0] if wanted else None)

    def test_without_any(self):
        for house in (ONE_HALL, (1, ((0,),) * 6), (2, ((0, 1),)), (3, ((1, 0, 2),)), SEVEN_OF_EIGHT):
            with self.subTest(house=house):
                self.assertEqual(roamers(house), ())
                self.assertEqual(plain_roamers(house), ())
                self.assertEqual(count_roamers(house), 0)
                self.assertIsNone(least_roamer(house))

    def test_houses_of_more_than_one_lot(self):
        house = (5, ((1, 2, 0, 3, 4), (0, 1, 2, 4, 3)))
        self.assertEqual(roamers(house), ((1, 2, 0, 4, 3), (2, 0, 1, 4, 3)))
        self.assertEqual(least_roamer(house), (1, 2, 0, 4, 3))
        self.assertEqual(roamers((4, ((1, 0, 3, 2),))), ((1, 0, 3, 2),))
        self.assertIsNone(least_roamer((4, ((1, 0, 2, 3),))))

    def test_eight_halls(self):
        self.assertEqual(count_roamers(RING_OF_EIGHT), 7)
        self.assertEqual(least_roamer(RING_OF_EIGHT), (1, 2, 3, 4, 5, 6, 7, 0))
        self.assertEqual(roamers(RING_OF_EIGHT)[-1], (7, 0, 1, 2, 3, 4, 5, 6))

    def test_all_turns_of_seven_halls(self):
        found = roamers(SEVEN_ALL)
        self.assertEqual(count_roamers(SEVEN_ALL), 1854)
        self.assertEqual(list(found), sorted(set(found)))
        self.assertEqual(len(found), 1854)
        self.assertEqual(least_roamer(SEVEN_ALL), (1, 0, 3, 2, 5, 6, 4))

    def test_halls_called_otherwise(self):
        house = renamed(THREE, (2, 0, 1))
        self.assertEqual(roamers(house), ((1, 2, 0), (2, 0, 1)))
        ring = renamed((4, ((1, 2, 3, 0),)), (0, 2, 1, 3))
        self.assertEqual(ring, (4, ((2, 3, 1, 0),)))
        self.assertEqual(roamers(ring), ((1, 0, 3, 2), (2, 3, 1, 0), (3, 2, 0, 1)))


class PlainRoamers(unittest.TestCase):
    def test_against_the_groups(self):
        for house in small_houses() + whole_houses() + list(NOT_WHOLE[:-1]):
            found = moved_all(group_of(house))
            wanted = tuple(turn for turn in found if of_one_prime(lengths_of_rings(turn)))
            with self.subTest(house=house):
                self.assertEqual(plain_roamers(house), wanted)

    def test_each_kind_of_rings(self):
        plain = {
            (1, 0): True,
            (1, 2, 0): True,
            (1, 2, 3, 0): True,
            (1, 0, 3, 4, 2): False,
            (1, 2, 3, 4, 0): True,
            (1, 0, 3, 4, 5, 2): True,
            (1, 2, 0, 4, 5, 3): True,
            (1, 2, 3, 4, 5, 0): False,
            (1, 0, 3, 4, 5, 6, 2): False,
            (1, 2, 0, 4, 5, 6, 3): False,
            (1, 2, 3, 4, 5, 6, 0): True,
            (1, 2, 3, 4, 5, 6, 7, 0): True,
            (1, 0, 3, 2, 5, 6, 7, 4): True,
            (1, 2, 3, 0, 5, 6, 7, 4): True,
            (1, 0, 3, 4, 5, 6, 7, 2): False,
            (1, 2, 0, 4, 5, 6, 7, 3): False,
            (1, 2, 0, 4, 5, 3, 7, 6): False,
        }
        for turn, is_so in plain.items():
            house = (len(turn), (turn,))
            with self.subTest(turn=turn):
                self.assertIn(turn, roamers(house))
                self.assertIs(turn in plain_roamers(house), is_so)

    def test_all_turns_of_seven_halls(self):
        # Only a ring of all seven halls: 5 and 2, 4 and 3, 3 and two of 2 are of several primes.
        found = plain_roamers(SEVEN_ALL)
        self.assertEqual(len(found), 720)
        self.assertEqual(found[0], (1, 2, 3, 4, 5, 6, 0))

    def test_all_turns_of_six_halls(self):
        # 90 with rings of 4 and 2, 40 of 3 and 3, 15 of 2, 2 and 2, and not the 120 of 6.
        house = (6, ((1, 2, 3, 4, 5, 0), (1, 0, 2, 3, 4, 5)))
        self.assertEqual(count_roamers(house), 265)
        self.assertEqual(len(plain_roamers(house)), 145)

    def test_each_whole_house_has_one(self):
        for house in whole_houses():
            with self.subTest(house=house):
                self.assertGreater(len(plain_roamers(house)), 0)


class Spare(unittest.TestCase):
    def test_against_the_groups(self):
        for house in small_houses() + whole_houses():
            if house[0] > 1 and is_transitive(house):
                group = group_of(house)
                wanted = len(moved_all(group)) * house[0] - len(group)
                with self.subTest(house=house):
                    self.assertEqual(spare(house), wanted)
                    self.assertGreaterEqual(wanted, 0)
                    self.assertIs(has_fewest(house), wanted == 0)

    def test_single_numbers(self):
        self.assertEqual(spare(TWO), 0)
        self.assertEqual(spare(RING_OF_EIGHT), 48)
        self.assertEqual(spare(FOUR_FLIPPED), 12)
        self.assertEqual(spare(FIVE_EVEN), 60)
        self.assertEqual(spare(SEVEN_ALL), 1854 * 7 - 5040)

    def test_halls_times_roamers(self):
        for house in whole_houses() + [SEVEN_ALL]:
            halls = house[0]
            total = order(house) * (rank(house) - 1)
            for kept, many in enumerate(table(house)):
                if kept > 0:
                    total += (kept - 1) * (halls - kept) * many
            with self.subTest(house=house):
                self.assertEqual(halls * count_roamers(house), total)


class Sharp(unittest.TestCase):
    def test_against_the_groups(self):
        for house in small_houses() + whole_houses():
            if house[0] > 1 and is_transitive(house):
                with self.subTest(house=house):
                    self.assertIs(is_sharp(house), leads_pairs_once(house))

    def test_sharp_houses(self):
        for house in SHARP:
            with self.subTest(house=house):
                self.assertIs(is_sharp(house), True)
                self.assertIs(has_fewest(house), True)

    def test_others(self):
        for house in SINGLE + LOOSE + (SEVEN_ALL,):
            with self.subTest(house=house):
                self.assertIs(is_sharp(house), False)
                self.assertIs(has_fewest(house), False)

    def test_sharp_are_those_with_the_fewest_roamers(self):
        for house in small_houses() + whole_houses():
            if house[0] > 1 and is_transitive(house):
                with self.subTest(house=house):
                    self.assertIs(is_sharp(house), has_fewest(house))

    def test_more_turns_than_members_tells(self):
        for house in (EIGHT_ALL, EIGHT_EVEN):
            with self.subTest(house=house):
                self.assertIs(is_sharp(house), False)


class Answers(unittest.TestCase):
    def test_kinds_of_values(self):
        for house in (THREE, FOUR, TWO, RING_OF_EIGHT):
            with self.subTest(house=house):
                for turns in (roamers(house), plain_roamers(house), (least_roamer(house),)):
                    self.assertIs(turns.__class__, tuple)
                    for turn in turns:
                        self.assertIs(turn.__class__, tuple)
                        self.assertEqual({hall.__class__ for hall in turn}, {int})
                self.assertIs(count_roamers(house).__class__, int)
                self.assertIs(spare(house).__class__, int)

    def test_equal_arguments_have_equal_answers(self):
        again = (4, tuple(tuple(list(turn)) for turn in FOUR[1]))
        for function in (roamers, plain_roamers, count_roamers, least_roamer, spare, has_fewest, is_sharp):
            self.assertEqual(function(FOUR), function(again))
            self.assertEqual(function(FOUR), function(FOUR))

    def test_only_the_group_counts(self):
        alike = (3, ((0, 1, 2), (2, 0, 1), (1, 0, 2), (1, 0, 2)))
        for function in (roamers, plain_roamers, count_roamers, least_roamer, spare, has_fewest, is_sharp):
            self.assertEqual(function(alike), function(THREE))

    def test_more_than_one_lot_does_for_roamers(self):
        for house in (LAME, SIX_TURNS):
            self.assertEqual(roamers(house), moved_all(group_of(house)))


if __name__ == "__main__":
    unittest.main()
