"""Roamers: the turns of a group that leave no hall in place."""

from nobodystays.errors import NotWhole
from nobodystays.groups import is_transitive, members, rank, reached, still, then
from nobodystays.stays import halls_kept, rings, table

# All primes that a ring of at most eight halls can have for its length.
PRIMES = (2, 3, 5, 7)


def check_whole(house):
    """Raise NotWhole for a house of one hall, or whose turns do not lead each hall to each."""
    if not is_transitive(house) or house[0] < 2:
        raise NotWhole()


def is_power(number, prime):
    """Whether a number, from 1 on, is a power of a prime, 1 being one of each."""
    rest = number
    while rest % prime == 0:
        rest = rest // prime
    return rest == 1


def are_powers(numbers, prime):
    """Whether numbers, from 1 on, are all powers of a prime."""
    return all([is_power(number, prime) for number in numbers])


def is_plain(lengths):
    """Whether lengths of rings are all powers of one prime."""
    return any([are_powers(lengths, prime) for prime in PRIMES])


def roamers(house):
    """The ascending tuple of the roamers of the group."""
    return tuple([turn for turn in members(house) if len(halls_kept(turn)) == 0])


def plain_roamers(house):
    """The ascending tuple of the roamers whose rings have powers of one prime for lengths."""
    return tuple([turn for turn in roamers(house) if is_plain(rings(house, turn))])


def count_roamers(house):
    """How many roamers the group has."""
    return len(roamers(house))


def least_roamer(house):
    """The least roamer, None without any."""
    found = roamers(house)
    if len(found) == 0:
        return None
    return found[0]


def spare(house):
    """The number of roamers times that of halls, less the number of turns of the group."""
    check_whole(house)
    counts = table(house)
    return counts[0] * house[0] - sum(counts)


def has_fewest(house):
    """Whether the group has as few roamers as one that leads each hall to each can have."""
    return spare(house) == 0


def is_sharp(house):
    """Whether each two unlike halls, in order, are led to each two by just one turn."""
    check_whole(house)
    halls, turns = house
    # If the pairs are one lot, as many turns lead one to any other, so one does if there are
    # no more turns than pairs. Looking no further than that spares going through large groups.
    pairs = halls * (halls - 1)
    return rank(house) == 2 and len(reached(still(halls), turns, then, pairs)) == pairs
