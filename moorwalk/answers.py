"""Answers about two walks, which can be asked whether they show what they tell."""

from moorwalk.checks import is_land
from moorwalk.covers import lifted
from moorwalk.errors import BadCover
from moorwalk.walks import cells_along, do_move, move_at
from moorwalk.words import cuts, opposites, put_together, round_form, word_along, word_of


class Answer:
    """What is told of two walks."""


class Led(Answer):
    """Two lists of turns and drops that lead two walks to one and the same walk."""

    def __init__(self, first, second):
        self.first = copied(first)
        self.second = copied(second)

    def shows(self, grid, begin, one, other):
        """Tell whether the moves lead these walks to one and the same walk."""
        left = led_by(grid, begin, one, self.first)
        return left is not None and left == led_by(grid, begin, other, self.second)


class Parted(Answer):
    """A covering in which two walks, begun on sheet 0, end on unlike sheets."""

    def __init__(self, sheets, turnings):
        self.sheets = sheets
        self.turnings = copied(turnings)

    def shows(self, grid, begin, one, other):
        """Tell whether it is a covering in which these walks end on unlike sheets."""
        try:
            end = lifted(grid, self.sheets, self.turnings, begin, 0, one)
            other_end = lifted(grid, self.sheets, self.turnings, begin, 0, other)
        except BadCover:
            return False
        return end != other_end


class Same(Answer):
    """A way such that one round is alike the way, the other round and the way back."""

    def __init__(self, way):
        self.way = way

    def shows(self, grid, begin, one, place, other):
        """Tell whether the way leads so from the one round to the other one."""
        cells = cells_along(begin, self.way)
        if cells[-1] != place or not all([is_land(grid, cell) for cell in cells]):
            return False
        there = word_along(cuts(grid), cells)
        around = put_together(there, word_of(grid, place, other))
        return put_together(around, opposites(there)) == word_of(grid, begin, one)


class Other(Answer):
    """The round forms of two rounds' words, which are unlike."""

    def __init__(self, first, second):
        self.first = copied(first)
        self.second = copied(second)

    def shows(self, grid, begin, one, place, other):
        """Tell whether these are the round forms of the two rounds, and unlike."""
        if self.first == self.second:
            return False
        first = round_form(word_of(grid, begin, one))
        return self.first == first and self.second == round_form(word_of(grid, place, other))


def copied(thing):
    """Tell a copy of a list, the lists within it copied too; all else as it is."""
    if isinstance(thing, list):
        return [copied(part) for part in thing]
    return thing


def led_by(grid, begin, walk, moves):
    """Tell the walk that these turns and drops lead to, or None if one cannot be done."""
    letters = list(walk)
    cells = cells_along(begin, walk)
    for word, place, letter in moves:
        if word not in ("turn", "drop") or letter != "" or not 0 <= place < len(letters) - 1:
            return None
        if move_at(grid, cells, letters, place) != word:
            return None
        do_move(letters, cells, word, place)
    return "".join(letters)
