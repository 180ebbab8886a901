"""What turns leave in place, and their rings."""

from nobodystays.checks import check_house, check_turn
from nobodystays.groups import members, parts


def halls_kept(turn):
    """The ascending tuple of the halls that a turn leaves in place."""
    return tuple([hall for hall, to in enumerate(turn) if hall == to])


def stayers(house, turn):
    """The ascending tuple of the halls that a turn of the halls leaves in place."""
    check_house(house)
    check_turn(house[0], turn)
    return halls_kept(turn)


def rings(house, turn):
    """The ascending tuple of the lengths of the rings of a turn of the halls."""
    check_house(house)
    halls = house[0]
    check_turn(halls, turn)
    # A turn's rings are the lots of the house that has this turn alone.
    return tuple(sorted([len(ring) for ring in parts((halls, (turn,)))]))


def table(house):
    """The tuple of how many turns of the group leave none, one, .., all halls in place."""
    found = members(house)
    counts = [0] * (house[0] + 1)
    for member in found:
        counts[len(halls_kept(member))] += 1
    return tuple(counts)
