"""A sharp house of each number of halls that has one."""

from nobodystays.checks import MOST_HALLS, check_number
from nobodystays.groups import is_house, is_transitive
from nobodystays.roamers import is_sharp

FEWEST_HALLS = 2
# The halls stand for the items of a field of as many: one turn adds 1 to each, the other one
# multiplies each by an item whose powers are all items but 0 (of 2 halls that is the still turn,
# left out). Fields have 2, 3, 4, 5, 7, 8, .. items: of 6 halls there is no sharp house.
TURNS = {
    2: ((1, 0),),
    3: ((1, 2, 0), (0, 2, 1)),
    4: ((1, 0, 3, 2), (0, 2, 3, 1)),
    5: ((1, 2, 3, 4, 0), (0, 2, 4, 1, 3)),
    7: ((1, 2, 3, 4, 5, 6, 0), (0, 3, 6, 2, 5, 1, 4)),
    8: ((1, 0, 3, 2, 5, 4, 7, 6), (0, 2, 4, 6, 3, 1, 7, 5)),
}


def check_halls(halls):
    """Raise BadNumber for what is no integer from 2 to 8."""
    check_number(halls, FEWEST_HALLS, MOST_HALLS)


def sharp_house(halls):
    """A sharp house of so many halls, None without any."""
    check_halls(halls)
    if halls not in TURNS:
        return None
    return (halls, TURNS[halls])


def shows_sharp(halls, value):
    """Whether a value is what sharp_house may return."""
    check_halls(halls)
    if value is None:
        return halls not in TURNS
    return is_house(value) and value[0] == halls and is_transitive(value) and is_sharp(value)
