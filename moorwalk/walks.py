"""Walks on the land of a grid, and the moves that change them."""

from moorwalk.checks import check_grid, check_land, is_land, is_number
from moorwalk.errors import BadMove, BadWalk, NotRound

STEPS = {"N": (-1, 0), "E": (0, 1), "S": (1, 0), "W": (0, -1)}
OPPOSITES = {"N": "S", "E": "W", "S": "N", "W": "E"}
MOST_STEPS = 200


def cells_of(grid, begin, walk):
    """Tell the cells that the walk comes to, from its begin on, in their turn."""
    check_grid(grid)
    check_land(grid, begin)
    check_letters(walk)
    told = cells_along(begin, walk)
    for cell in told:
        if not is_land(grid, cell):
            raise BadWalk("a step of the walk leads off the land")
    return told


def check_letters(walk):
    """Refuse what is no text of so many letters of steps."""
    if not isinstance(walk, str) or len(walk) > MOST_STEPS:
        raise BadWalk("a walk is a text of 0 to 200 letters")
    for letter in walk:
        if letter not in STEPS:
            raise BadWalk("the letters of a walk are N, E, S and W")


def cells_along(begin, walk):
    """Tell the cells that these steps lead to, on the land or not."""
    row, column = begin
    told = [(row, column)]
    for letter in walk:
        told.append(stepped(told[-1], letter))
    return told


def stepped(cell, letter):
    """Tell the cell that this step leads to."""
    row, column = cell
    down, right = STEPS[letter]
    return (row + down, column + right)


def check_round(cells):
    """Refuse a walk to these cells if it does not end at its begin."""
    if cells[0] != cells[-1]:
        raise NotRound("the walk does not end at its begin")


def back(walk):
    """Tell the same steps the other way, from the last one on."""
    check_letters(walk)
    return steps_back(walk)


def steps_back(walk):
    """Tell steps the other way, from the last one on, however many they are."""
    return "".join([OPPOSITES[letter] for letter in reversed(walk)])


def moved(grid, begin, walk, move):
    """Tell the walk that the move makes of this one."""
    cells = cells_of(grid, begin, walk)
    check_move(move)
    word, place, letter = move
    if word == "add":
        return added(grid, cells, walk, place, letter)
    if not 0 <= place < len(walk) - 1 or move_at(grid, cells, walk, place) != word:
        raise BadMove("the two steps cannot be moved so")
    between = walk[place + 1] + walk[place] if word == "turn" else ""
    return walk[:place] + between + walk[place + 2:]


def check_move(move):
    """Refuse what has not the form of a move."""
    if not isinstance(move, tuple) or len(move) != 3:
        raise BadMove("a move is a triple of a word, a place and a letter")
    word, place, letter = move
    if not is_number(place):
        raise BadMove("the place of a move is a whole number")
    if not isinstance(word, str) or not isinstance(letter, str):
        raise BadMove("the word and the letter of a move are texts")
    if word == "add":
        if letter not in STEPS:
            raise BadMove("the letter of what is put in is N, E, S or W")
    elif word not in ("turn", "drop") or letter != "":
        raise BadMove("a move is turn or drop without a letter, or add")


def added(grid, cells, walk, place, letter):
    """Tell the walk with this step and the one back put in."""
    if not 0 <= place <= len(walk):
        raise BadMove("there is no such place in the walk")
    if len(walk) + 2 > MOST_STEPS:
        raise BadMove("the walk would be of more than 200 steps")
    if not is_land(grid, stepped(cells[place], letter)):
        raise BadMove("the step that is put in leads off the land")
    return walk[:place] + letter + OPPOSITES[letter] + walk[place:]


def move_at(grid, cells, walk, place):
    """Tell the word of the move that can be done with two steps, or an empty text."""
    first = walk[place]
    second = walk[place + 1]
    if second == OPPOSITES[first]:
        return "drop"
    # Of a turn only the cell between the two steps becomes another one.
    if first != second and is_land(grid, stepped(cells[place], second)):
        return "turn"
    return ""


def moves_of(grid, begin, walk):
    """Tell all turns and drops that can be done, by rising places."""
    cells = cells_of(grid, begin, walk)
    told = []
    for place in range(len(walk) - 1):
        word = move_at(grid, cells, walk, place)
        if word != "":
            told.append((word, place, ""))
    return told


def do_move(letters, cells, word, place):
    """Do a turn or a drop that can be done in the lists of letters and cells themselves."""
    if word == "turn":
        letters[place], letters[place + 1] = letters[place + 1], letters[place]
        cells[place + 1] = stepped(cells[place], letters[place])
    else:
        del letters[place:place + 2]
        del cells[place + 1:place + 3]
