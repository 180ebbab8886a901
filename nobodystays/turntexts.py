"""Houses written as texts, and read from them."""

from nobodystays.checks import MOST_HALLS, MOST_TURNS, check_house, is_number, is_turn
from nobodystays.errors import BadLine, BadText

# Other signs that Python's int takes for figures are none here.
FIGURES = {"0": 0, "1": 1, "2": 2, "3": 3, "4": 4, "5": 5, "6": 6, "7": 7, "8": 8}


def write_turn(turn):
    """The line of a turn."""
    figures = "".join([str(hall) for hall in turn])
    return f"turn {figures}"


def write_house(house):
    """The text of a house."""
    check_house(house)
    halls, turns = house
    return "\n".join([f"halls {halls}"] + [write_turn(turn) for turn in turns])


def words_of(line):
    """The words of a line."""
    # A split without an argument would part words at other signs, too, such as tabs.
    return [word for word in line.split(" ") if word != ""]


def second_word(number, words, first):
    """The second word of the line of that number, which has to have that first one."""
    if words[0] != first:
        raise BadLine(number, 1)
    if len(words) < 2:
        raise BadLine(number, 2)
    return words[1]


def check_end(number, words):
    """Raise BadLine for a line of that number with more than two words."""
    if len(words) > 2:
        raise BadLine(number, 3)


def read_halls(number, words):
    """The number of halls that the words of a line tell."""
    halls = FIGURES.get(second_word(number, words, "halls"))
    if not is_number(halls, 1, MOST_HALLS):
        raise BadLine(number, 2)
    check_end(number, words)
    return halls


def read_turn(number, words, halls):
    """The turn of so many halls that the words of a line tell."""
    turn = tuple([FIGURES.get(sign) for sign in second_word(number, words, "turn")])
    if not is_turn(halls, turn):
        raise BadLine(number, 2)
    check_end(number, words)
    return turn


def read_lines(lines):
    """The number of halls, and the list of turns, that lines tell: None and none without any."""
    halls = None
    turns = []
    for number, line in enumerate(lines, start=1):
        words = words_of(line)
        if len(words) == 0:
            continue
        # Behind the last turn that a house may have, no first word can stand.
        if len(turns) == MOST_TURNS:
            raise BadLine(number, 1)
        if halls is None:
            halls = read_halls(number, words)
        else:
            turns.append(read_turn(number, words, halls))
    return halls, turns


def read_house(text):
    """The house that a text tells."""
    if not isinstance(text, str):
        raise BadText()
    lines = text.split("\n")
    halls, turns = read_lines(lines)
    if len(turns) == 0:
        raise BadLine(len(lines) + 1, 1)
    return (halls, tuple(turns))
