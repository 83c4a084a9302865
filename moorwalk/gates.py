"""Gates: with all of them shut each piece holds together, and no way leads around a pond."""

from moorwalk.checks import is_land
from moorwalk.pieces import ponds
from moorwalk.walks import STEPS, stepped, steps_back
from moorwalk.words import crossings, ends_taken, written


def gates(grid):
    """Tell for the cells left of a gate the number that a step E out of them writes."""
    told = {}
    for count, cells in enumerate(ponds(grid)):
        row, column = above(cells)
        # A gate goes from a pond straight up to the next water. That is of a pond with
        # a lesser first cell or leads out, so the gates tie all ponds to the outer water.
        while is_land(grid, (row, column)) and is_land(grid, (row, column + 1)):
            told[(row, column)] = [count + 1]
            row -= 1
    return told


def above(pond):
    """Tell the cell above a pond's first cell; the pond's gate lies right of it."""
    row, column = pond[0]
    return (row - 1, column)


def walks_within(grid, shut, begin):
    """Tell for each cell of the piece a walk there from the begin through no gate."""
    told = {begin: ""}
    waiting = [begin]
    while waiting:
        later = []
        for here in waiting:
            for letter in STEPS:
                there = stepped(here, letter)
                if there not in told and is_land(grid, there) and not written(shut, here, there):
                    told[there] = told[here] + letter
                    later.append(there)
        waiting = later
    return told


class Circling:
    """A round, and the numbers that it writes at gates over and over again."""

    def __init__(self, shut, walk, cells):
        self.walk = walk
        self.cells = cells
        passed = crossings(shut, cells)
        taken = ends_taken([number for number, place in passed])
        kept = passed[taken:len(passed) - taken]
        self.numbers = [number for number, place in kept]
        # Each number with the count of steps ahead of it; with no number any count will do.
        self.places = [place for number, place in kept] or [0]

    def turned_to(self, numbers):
        """Tell from which of its numbers on it writes these, over and over, or None."""
        for first in range(len(self.places)):
            if self.numbers[first:] + self.numbers[:first] == numbers:
                return first
        return None


def way_between(grid, shut, one, other):
    """Tell a way such that the one round is alike way, other round and way back, or None."""
    first = one.turned_to(other.numbers)
    if first is None:
        return None
    # From both places on the rounds write the same, so a way between them that goes
    # through no gate leads from the one to the other.
    place = one.places[first]
    other_place = other.places[0]
    across = walks_within(grid, shut, one.cells[place])[other.cells[other_place]]
    return one.walk[:place] + across + steps_back(other.walk[:other_place])
