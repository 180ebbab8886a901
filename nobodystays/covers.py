"""Parts of houses, and the turns that have a like in a part."""

from nobodystays.checks import check_house, is_turn
from nobodystays.errors import NotWithin, Unlike
from nobodystays.groups import like, members, reached


def both_groups(house, part):
    """The members of two houses that have equally many halls."""
    check_house(house)
    check_house(part)
    if house[0] != part[0]:
        raise Unlike()
    return members(house), members(part)


def lies_within(inner, whole):
    """Whether all turns of one group are turns of another one."""
    return len(set(inner) - set(whole)) == 0


def part_groups(house, part):
    """The members of a house and of a part of it."""
    whole, inner = both_groups(house, part)
    if not lies_within(inner, whole):
        raise NotWithin()
    return whole, inner


def covered_turns(turns, inner):
    """The ascending tuple of the likes, by the group that turns make, of an inner group."""
    seen = set()
    for turn in inner:
        # Likes are likes of one another, so one of them tells of all.
        if turn not in seen:
            for other in reached(turn, turns, like):
                seen.add(other)
    return tuple(sorted(seen))


def uncovered_turns(house, part):
    """The ascending tuple of the turns of a house's group that have no like in a part's one."""
    whole, inner = part_groups(house, part)
    return tuple(sorted(set(whole) - set(covered_turns(house[1], inner))))


def is_within(house, part):
    """Whether the group of a part lies within that of a house."""
    whole, inner = both_groups(house, part)
    return lies_within(inner, whole)


def count_covered(house, part):
    """How many turns of a house's group have a like in a part's one."""
    inner = part_groups(house, part)[1]
    return len(covered_turns(house[1], inner))


def uncovered(house, part):
    """A turn of a house's group that has no like in a part's one, None without any."""
    found = uncovered_turns(house, part)
    if len(found) == 0:
        return None
    return found[0]


def shows_uncovered(house, part, value):
    """Whether a value is what uncovered may return."""
    found = uncovered_turns(house, part)
    if value is None:
        return len(found) == 0
    return is_turn(house[0], value) and value in found
