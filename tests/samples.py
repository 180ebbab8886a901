"""Houses, wrong values, and a second way to work out groups, for the tests."""

from itertools import permutations, product

ONE_HALL = (1, ((0,),))
THREE = (3, ((1, 2, 0), (0, 2, 1)))
FOUR = (4, ((1, 2, 3, 0), (1, 0, 2, 3)))
LAME = (5, ((1, 2, 0, 3, 4), (0, 1, 2, 4, 3)))
RING_OF_EIGHT = (8, ((1, 2, 3, 4, 5, 6, 7, 0),))
SIX_TURNS = (
    4,
    ((0, 1, 2, 3), (1, 0, 2, 3), (1, 0, 2, 3), (0, 1, 3, 2), (1, 0, 3, 2), (0, 1, 2, 3)),
)
# Groups of just 5040 turns, on seven halls and on eight.
SEVEN_ALL = (7, ((1, 2, 3, 4, 5, 6, 0), (1, 0, 2, 3, 4, 5, 6)))
SEVEN_OF_EIGHT = (8, ((1, 2, 3, 4, 5, 6, 0, 7), (1, 0, 2, 3, 4, 5, 6, 7)))
# Groups of more: all 40320 turns of eight halls, and the even 20160.
EIGHT_ALL = (8, ((1, 2, 3, 4, 5, 6, 7, 0), (1, 0, 2, 3, 4, 5, 6, 7)))
EIGHT_EVEN = (8, ((1, 2, 3, 4, 5, 6, 0, 7), (0, 1, 2, 3, 4, 6, 7, 5)))

# Sharp houses of 2, 4, 5, 7 and 8 halls; THREE is one of 3.
TWO = (2, ((1, 0),))
FOUR_EVEN = (4, ((1, 0, 3, 2), (1, 2, 0, 3)))
FIVE_SHARP = (5, ((1, 2, 3, 4, 0), (0, 2, 4, 1, 3)))
SEVEN_SHARP = (7, ((1, 2, 3, 4, 5, 6, 0), (0, 3, 6, 2, 5, 1, 4)))
EIGHT_SHARP = (8, ((1, 0, 3, 2, 5, 4, 7, 6), (0, 2, 4, 6, 3, 1, 7, 5)))
SHARP = (TWO, THREE, FOUR_EVEN, FIVE_SHARP, SEVEN_SHARP, EIGHT_SHARP)
# Single houses that are not sharp.
FIVE_FLIPPED = (5, ((1, 2, 3, 4, 0), (0, 4, 3, 2, 1)))
SINGLE = (
    (3, ((1, 2, 0),)),
    (4, ((1, 2, 3, 0),)),
    (4, ((1, 0, 3, 2), (2, 3, 0, 1))),
    (5, ((1, 2, 3, 4, 0),)),
    FIVE_FLIPPED,
    (6, ((1, 2, 3, 4, 5, 0),)),
    (6, ((1, 2, 0, 4, 5, 3), (3, 5, 4, 0, 2, 1))),
    (7, ((1, 2, 3, 4, 5, 6, 0), (0, 6, 5, 4, 3, 2, 1))),
    (7, ((1, 2, 3, 4, 5, 6, 0), (0, 2, 4, 6, 1, 3, 5))),
    RING_OF_EIGHT,
    (8, ((1, 2, 3, 0, 5, 6, 7, 4), (4, 7, 6, 5, 2, 1, 0, 3))),
)
# Houses that lead each hall to each, and are not single.
FOUR_FLIPPED = (4, ((1, 2, 3, 0), (0, 3, 2, 1)))
FIVE_EVEN = (5, ((1, 2, 3, 4, 0), (1, 2, 0, 3, 4)))
SIX_OF_SIXTY = (6, ((1, 2, 3, 4, 0, 5), (5, 4, 2, 3, 1, 0)))
LOOSE = (
    FOUR,
    FOUR_FLIPPED,
    FIVE_EVEN,
    (5, ((1, 2, 3, 4, 0), (1, 0, 2, 3, 4))),
    (6, ((1, 2, 3, 4, 5, 0), (0, 5, 4, 3, 2, 1))),
    SIX_OF_SIXTY,
    (6, ((1, 0, 2, 3, 4, 5), (2, 3, 4, 5, 0, 1))),
    (7, ((1, 2, 3, 4, 5, 6, 0), (0, 1, 4, 6, 2, 5, 3))),
    (8, ((1, 2, 3, 4, 5, 6, 7, 0), (0, 7, 6, 5, 4, 3, 2, 1))),
)
# Houses of one hall, or whose turns do not lead each hall to each.
NOT_WHOLE = (
    ONE_HALL,
    (1, ((0,),) * 6),
    (2, ((0, 1),)),
    (3, ((1, 0, 2),)),
    (4, ((1, 0, 2, 3),)),
    (4, ((1, 0, 3, 2),)),
    (4, ((1, 0, 2, 3), (0, 1, 3, 2))),
    LAME,
    SIX_TURNS,
    (8, ((1, 2, 3, 0, 5, 6, 7, 4),)),
    SEVEN_OF_EIGHT,
)

NO_WHOLE = (
    None, True, False, 0, 3, "", "halls", (), [], {}, (3,), (3, ((1, 2, 0),), 0),
    [3, ((1, 2, 0),)], {3: ((1, 2, 0),)}, ((3, ((1, 2, 0),)),),
)
NO_HALLS = (
    (0, ()), (0, ((),)), (9, ((1, 2, 3, 4, 5, 6, 7, 8, 0),)), (-1, ((0,),)), (True, ((0,),)),
    (False, ((0,),)), (None, ((0,),)), ("3", ((1, 2, 0),)), ((3,), ((1, 2, 0),)),
    ([3], ((1, 2, 0),)), ({}, ((1, 2, 0),)), (10 ** 40, ((0,),)), (9, None), (True, True),
)
NO_TURNS = (
    (2, ()), (2, ((1, 0),) * 7), (2, [(1, 0)]), (2, None), (2, True), (2, 1), (2, "10"), (2, {}),
    (2, (1, 0)), (2, ([1, 0],)), (2, ("10",)), (2, ({0: 1, 1: 0},)), (2, (None,)), (2, ((),)),
    (2, ((0,),)), (2, ((1, 0, 2),)), (2, ((1, 0, 0),)), (2, ((0, 0),)), (2, ((1, 2),)), (2, ((-1, 0),)),
    (2, ((True, False),)), (2, ((True, 0),)), (2, ((1, False),)), (1, ((False,),)), (2, ((None, 0),)),
    (2, (("1", "0"),)), (2, (((1,), (0,)),)), (2, (([1], 0),)), (2, ((1, 0), (1, 1))), (2, ((1, 0), None)),
    (2, ((1, 0), [0, 1])), (3, ((1, 0),)),
)
WRONG_HOUSES = tuple(
    [(value, "whole") for value in NO_WHOLE]
    + [(value, "halls") for value in NO_HALLS]
    + [(value, "turns") for value in NO_TURNS]
)
# No turns of three halls.
WRONG_TURNS = (
    None, True, False, 0, 120, "", "120", (), [], {}, [1, 2, 0], {0: 1, 1: 2, 2: 0}, (1, 0), (1, 2, 3, 0),
    (1, 2, 0, 0), (0, 0, 1), (1, 2, 3), (-1, 0, 1), (True, 2, 0), (1, 2, False), (None, 0, 1), ("1", "2", "0"),
    ((1,), 2, 0), ([1], 2, 0), ({}, 2, 0), ((1, 2, 0),),
)


def all_houses(halls, many):
    """All houses of so many halls and turns."""
    turns = list(permutations(range(halls)))
    return [(halls, chosen) for chosen in product(turns, repeat=many)]


def small_houses():
    """All houses of at most four halls with one or two turns, and more."""
    houses = []
    for halls in (1, 2, 3, 4):
        for many in (1, 2):
            houses.extend(all_houses(halls, many))
    houses.extend(all_houses(3, 3))
    houses.extend([LAME, SIX_TURNS, RING_OF_EIGHT])
    houses.append((6, ((1, 0, 3, 2, 4, 5), (2, 3, 0, 1, 4, 5), (0, 1, 2, 3, 5, 4))))
    houses.append((5, ((1, 2, 3, 4, 0), (0, 2, 4, 1, 3))))
    return houses


def joined(first, second):
    """One turn behind another, hall by hall."""
    made = []
    for hall in range(len(first)):
        made.append(second[first[hall]])
    return tuple(made)


def taken_back(turn):
    """The turn that leads each hall back."""
    back = [None] * len(turn)
    for hall, to in enumerate(turn):
        back[to] = hall
    return tuple(back)


def group_of(house):
    """The set of a house's group: the turns, joined with one another until no more come."""
    halls, turns = house
    group = {tuple(range(halls))} | set(turns)
    while True:
        more = group | {joined(first, second) for first in group for second in turns}
        if more == group:
            return group
        group = more


def renamed(house, names):
    """The house in which each hall has another number: that at its place in names."""
    halls, turns = house
    return (halls, tuple(joined(joined(taken_back(names), turn), names) for turn in turns))


def whole_houses():
    """Sharp houses, other single ones and others, and all of them with halls called otherwise."""
    houses = list(SHARP + SINGLE + LOOSE)
    for house in SHARP + SINGLE + LOOSE:
        halls = house[0]
        houses.append(renamed(house, tuple(reversed(range(halls)))))
        houses.append(renamed(house, tuple(sorted(range(halls), key=lambda hall: (hall % 2, -hall)))))
    return houses
