"""The document's examples, all in one run."""

import unittest

from nobodystays import errors

# Just as they stand in the document, from its first to its last.
EXAMPLES = r'''
>>> from nobodystays.groups import is_member, is_transitive, likes, made, members, order, parts, rank
>>> house = (3, ((1, 2, 0), (0, 2, 1)))
>>> [order(house), members(house)[:2], rank(house), likes(house, (1, 0, 2)), made(house, (0, 1))]
[6, ((0, 1, 2), (0, 2, 1)), 2, ((0, 2, 1), (1, 0, 2), (2, 1, 0)), (2, 1, 0)]
>>> from nobodystays.groups import is_member, is_transitive, parts
>>> house = (4, ((1, 0, 2, 3),))
>>> [parts(house), is_transitive(house), is_member(house, (0, 1, 3, 2))]
[((0, 1), (2,), (3,)), False, False]
>>> from nobodystays.groups import members
>>> members((2, ((0, 0),)))
raises BadHouse(part='turns')
>>> from nobodystays.stays import rings, stayers, table
>>> house = (4, ((1, 2, 3, 0), (1, 0, 2, 3)))
>>> [table(house), stayers(house, (1, 0, 2, 3)), rings(house, (1, 0, 2, 3))]
[(9, 8, 6, 0, 1), (2, 3), (1, 1, 2)]
>>> from nobodystays.stays import stayers
>>> stayers((2, ((1, 0),)), (0, 0))
raises BadTurn()
>>> from nobodystays.roamers import count_roamers, has_fewest, is_sharp, least_roamer, roamers, spare
>>> three, four = (3, ((1, 2, 0), (0, 2, 1))), (4, ((1, 2, 3, 0), (1, 0, 2, 3)))
>>> [roamers(three), is_sharp(three), has_fewest(three), count_roamers(four), spare(four), least_roamer(four)]
[((1, 2, 0), (2, 0, 1)), True, True, 9, 12, (1, 0, 3, 2)]
>>> from nobodystays.roamers import count_roamers, plain_roamers
>>> lame = (5, ((1, 2, 0, 3, 4), (0, 1, 2, 4, 3)))
>>> [count_roamers(lame), plain_roamers(lame)]
[2, ()]
>>> from nobodystays.roamers import spare
>>> spare((3, ((1, 0, 2),)))
raises NotWhole()
>>> from nobodystays.singles import core, core_is_group, is_single, surplus
>>> ring, four = (5, ((1, 2, 3, 4, 0), (0, 4, 3, 2, 1))), (4, ((1, 2, 3, 0), (1, 0, 2, 3)))
>>> [is_single(ring), surplus(ring), core(ring)[1], core_is_group(ring), is_single(four), surplus(four)]
[True, 0, (1, 2, 3, 4, 0), True, False, 6]
>>> from nobodystays.singles import core
>>> core((3, ((1, 0, 2),)))
raises NotWhole()
>>> from nobodystays.covers import count_covered, is_within, shows_uncovered, uncovered
>>> three, part = (3, ((1, 2, 0), (0, 2, 1))), (3, ((0, 2, 1),))
>>> [is_within(three, part), count_covered(three, part), shows_uncovered(three, part, uncovered(three, part)), uncovered(three, three)]
[True, 4, True, None]
>>> from nobodystays.covers import uncovered
>>> uncovered((3, ((1, 2, 0),)), (3, ((1, 0, 2),)))
raises NotWithin()
>>> from nobodystays.sharps import sharp_house, shows_sharp
>>> [[halls for halls in range(2, 9) if sharp_house(halls) is None], shows_sharp(8, sharp_house(8)), shows_sharp(3, (3, ((1, 2, 0),)))]
[[6], True, False]
>>> from nobodystays.seats import Seats
>>> seats = Seats((3, ((1, 2, 0), (0, 2, 1))))
>>> [seats.do(0), seats.where, seats.do(1), seats.where, seats.stayers(), seats.row, seats.undo(), seats.stayers()]
[None, (1, 2, 0), None, (2, 1, 0), (1,), (0, 1), None, ()]
>>> from nobodystays.seats import Seats
>>> Seats((0, ()))
raises BadHouse(part='halls')
>>> from nobodystays.turntexts import read_house, write_house
>>> [write_house((3, ((1, 2, 0), (0, 2, 1)))), read_house("halls 2\nturn 10")]
['halls 3\nturn 120\nturn 021', (2, ((1, 0),))]
>>> from nobodystays.turntexts import read_house
>>> read_house("halls 2\nturn 00")
raises BadLine(line=2, word=2)
'''


def steps(text):
    """The lines of examples, each with what is shown below it, None where nothing is."""
    found = []
    for line in text.strip().split("\n"):
        if line.startswith(">>> "):
            found.append([line[4:], None])
        else:
            found[-1][1] = line
    return found


def raised(line, names):
    """The error that a line raises, as the document shows errors."""
    try:
        eval(line, names)
    except errors.TurnError as error:
        fields = ", ".join(f"{field}={value!r}" for field, value in vars(error).items())
        return f"raises {error.__class__.__name__}({fields})"
    return "raises nothing"


class Examples(unittest.TestCase):
    def test_all_in_one_run(self):
        names = {}
        for line, shown in steps(EXAMPLES):
            with self.subTest(line):
                if shown is None:
                    exec(line, names)
                elif shown.startswith("raises "):
                    self.assertEqual(raised(line, names), shown)
                else:
                    self.assertEqual(repr(eval(line, names)), shown)


if __name__ == "__main__":
    unittest.main()
