"""Walks pulled tight, and what leads two walks or rounds together or tells them apart."""

from moorwalk.answers import Led, Other, Parted, Same
from moorwalk.covers import parting
from moorwalk.errors import Apart, Ends
from moorwalk.gates import Circling, gates, walks_within, way_between
from moorwalk.pieces import ponds
from moorwalk.walks import cells_of, check_round, do_move, move_at
from moorwalk.words import round_form, word_of


def tight(grid, begin, walk):
    """Tell the tight walk that is alike."""
    return Pulled(grid, begin, walk).tight_walk()


def tightening(grid, begin, walk):
    """Tell turns and drops that lead from the walk to the tight one."""
    return Pulled(grid, begin, walk).moves


class Pulled:
    """A walk pulled tight, with the moves that led there and those that lead back."""

    def __init__(self, grid, begin, walk):
        self.cells = cells_of(grid, begin, walk)
        self.letters = list(walk)
        self.moves = []
        self.moves_back = []
        self.pull(grid)

    def pull(self, grid):
        """Do drops, and turns that bring N or S ahead of E or W, as long as there is one."""
        # Without such a move a walk is tight. For if it is longer than need be, two of its
        # steps lead aside and back again, with steps straight on alone between them and
        # land on both sides of these: a turn brings the first of the two, if it is E or W,
        # or the second one, if it is N or S, nearer to the other, till both are dropped.
        place = 0
        while place < len(self.letters) - 1:
            word = move_at(grid, self.cells, self.letters, place)
            if word == "drop" or word == "turn" and self.letters[place] in ("E", "W"):
                self.do(word, place)
                # The step ahead of this place has another one behind it now.
                place = max(0, place - 1)
            else:
                place += 1
        self.moves_back.reverse()

    def do(self, word, place):
        """Do this move, and keep it and the one that leads back."""
        self.moves.append((word, place, ""))
        if word == "turn":
            self.moves_back.append((word, place, ""))
        else:
            self.moves_back.append(("add", place, self.letters[place]))
        do_move(self.letters, self.cells, word, place)

    def tight_walk(self):
        """Tell what is left of the walk."""
        return "".join(self.letters)


def both_pulled(grid, begin, one, other):
    """Tell both walks, pulled tight, if they end at one cell."""
    first = Pulled(grid, begin, one)
    second = Pulled(grid, begin, other)
    if first.cells[-1] != second.cells[-1]:
        raise Ends("the two walks end at unlike cells")
    return (first, second)


def led(grid, begin, one, other):
    """Tell moves that lead from the one walk to the other."""
    first, second = both_pulled(grid, begin, one, other)
    if first.letters != second.letters:
        raise Apart("the two walks are not alike")
    # Where the same moves lead back from the tight walk, the way need not go there.
    shared = 0
    for move, other_move in zip(first.moves_back, second.moves_back):
        if move != other_move:
            break
        shared += 1
    return first.moves[:len(first.moves) - shared] + second.moves_back[shared:]


def alike(grid, begin, one, other):
    """Tell moves that lead both walks to one, or a covering that parts them."""
    first, second = both_pulled(grid, begin, one, other)
    if first.letters == second.letters:
        return Led(first.moves, second.moves)
    word = word_of(grid, begin, one)
    sheets, turnings = parting(len(ponds(grid)), word, word_of(grid, begin, other))
    return Parted(sheets, turnings)


def rounds_alike(grid, begin, one, place, other):
    """Tell a way that leads from round to round, or the round forms of their words."""
    cells = cells_of(grid, begin, one)
    other_cells = cells_of(grid, place, other)
    check_round(cells)
    check_round(other_cells)
    shut = gates(grid)
    if place not in walks_within(grid, shut, begin):
        raise Apart("the begins are not of one piece")
    way = way_between(grid, shut, Circling(shut, one, cells), Circling(shut, other, other_cells))
    if way is None:
        return Other(round_form(word_of(grid, begin, one)), round_form(word_of(grid, place, other)))
    return Same(way)
