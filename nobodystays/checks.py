"""What a value must be to be a house, a turn, a row or a number."""

from nobodystays.errors import BadHouse, BadNumber, BadRow, BadTurn

MOST_HALLS = 8
MOST_TURNS = 6
LONGEST_ROW = 100


def is_number(value, least, most):
    """Whether a value is an integer within the bounds."""
    # True and False are integers to Python, but not to the document.
    return isinstance(value, int) and not isinstance(value, bool) and least <= value <= most


def is_turn(halls, value):
    """Whether a value is a turn of so many halls."""
    if not isinstance(value, tuple) or len(value) != halls:
        return False
    return all(is_number(hall, 0, halls - 1) for hall in value) and len(set(value)) == halls


def are_turns(halls, value):
    """Whether a value is what a house may have for its turns."""
    if not isinstance(value, tuple) or not 1 <= len(value) <= MOST_TURNS:
        return False
    return all(is_turn(halls, turn) for turn in value)


def house_fault(value):
    """The word for what keeps a value from being a house, None for a house."""
    if not isinstance(value, tuple) or len(value) != 2:
        return "whole"
    halls, turns = value
    if not is_number(halls, 1, MOST_HALLS):
        return "halls"
    if not are_turns(halls, turns):
        return "turns"
    return None


def check_house(house):
    """Raise BadHouse for a value that is no house."""
    fault = house_fault(house)
    if fault is not None:
        raise BadHouse(fault)


def check_number(value, least, most):
    """Raise BadNumber for a value that is no integer within the bounds."""
    if not is_number(value, least, most):
        raise BadNumber()


def check_turn(halls, turn):
    """Raise BadTurn for a value that is no turn of so many halls."""
    if not is_turn(halls, turn):
        raise BadTurn()


def check_row(many, row):
    """Raise BadRow for a value that is no row of numbers of so many turns."""
    if not isinstance(row, tuple) or len(row) > LONGEST_ROW:
        raise BadRow(None)
    for index, number in enumerate(row):
        if not is_number(number, 0, many - 1):
            raise BadRow(index)
