"""Houses, the groups of their turns, and what these lead to what."""

from nobodystays.checks import check_house, check_row, check_turn, house_fault
from nobodystays.errors import TooMany

MOST_MEMBERS = 5040


def still(halls):
    """The turn that leaves all of so many halls in place."""
    return tuple(range(halls))


def then(first, second):
    """The turn that two turns make, the second one behind the first."""
    return tuple([second[hall] for hall in first])


def undone(turn):
    """The turn that takes a turn back."""
    return tuple([turn.index(hall) for hall in range(len(turn))])


def hall_led(hall, turn):
    """The hall to which a turn leads a hall."""
    return turn[hall]


def pair_led(pair, turn):
    """The pair of halls to which a turn leads a pair of halls."""
    first, second = pair
    return (turn[first], turn[second])


def like(turn, by):
    """What comes if a turn is undone, another turn done, and the first one done."""
    return then(then(undone(by), turn), by)


def reached(start, turns, lead, most=None):
    """The ascending tuple of all that turns, in any row, make of a start.

    If these are more than most, only some of them, still more than most.
    """
    # The turns alone suffice: each is undone by doing it often enough.
    seen = {start}
    waiting = [start]
    while waiting and (most is None or len(seen) <= most):
        thing = waiting.pop()
        for turn in turns:
            after = lead(thing, turn)
            if after not in seen:
                seen.add(after)
                waiting.append(after)
    return tuple(sorted(seen))


def is_house(value):
    """Whether a value is a house."""
    return house_fault(value) is None


def made(house, row):
    """The turn that those of a row make, one behind another."""
    check_house(house)
    halls, turns = house
    check_row(len(turns), row)
    turn = still(halls)
    for number in row:
        turn = then(turn, turns[number])
    return turn


def members(house):
    """The ascending tuple of the turns of the group."""
    check_house(house)
    halls, turns = house
    found = reached(still(halls), turns, then, MOST_MEMBERS)
    if len(found) > MOST_MEMBERS:
        raise TooMany(MOST_MEMBERS)
    return found


def order(house):
    """How many turns the group has."""
    return len(members(house))


def is_member(house, turn):
    """Whether a turn of the halls is one of the group."""
    check_house(house)
    check_turn(house[0], turn)
    return turn in members(house)


def parts(house):
    """The ascending tuple of the lots of halls that turns lead to one another."""
    check_house(house)
    halls, turns = house
    return tuple(sorted({reached(hall, turns, hall_led) for hall in range(halls)}))


def is_transitive(house):
    """Whether turns lead each hall to each."""
    return len(parts(house)) == 1


def rank(house):
    """How many lots of ordered pairs of halls there are that turns lead to one another."""
    check_house(house)
    halls, turns = house
    pairs = [(first, second) for first in range(halls) for second in range(halls)]
    return len({reached(pair, turns, pair_led) for pair in pairs})


def likes(house, turn):
    """The ascending tuple of the likes of a turn of the halls, by the group."""
    check_house(house)
    halls, turns = house
    check_turn(halls, turn)
    return reached(turn, turns, like)
