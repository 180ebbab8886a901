"""Single houses: only the still turn leaves two or more halls in place."""

from nobodystays.errors import NotSingle
from nobodystays.groups import still, then
from nobodystays.roamers import check_whole, roamers
from nobodystays.stays import table


def surplus(house):
    """The number of roamers less the number of halls less one."""
    check_whole(house)
    return table(house)[0] - (house[0] - 1)


def is_single(house):
    """Whether only the still turn leaves two or more halls in place."""
    check_whole(house)
    # The still turn itself is one that leaves at least two in place.
    return sum(table(house)[2:]) == 1


def core(house):
    """The ascending tuple of the still turn and the roamers of a single house."""
    if not is_single(house):
        raise NotSingle()
    # No turn is less than the still one.
    return (still(house[0]), *roamers(house))


def core_is_group(house):
    """Whether any two of the core's turns, one behind another, make one of them."""
    turns = core(house)
    return all([then(first, second) in turns for first in turns for second in turns])
