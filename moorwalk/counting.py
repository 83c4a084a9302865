"""Counts of a grid that lead to its pieces less its ponds, and of two grids' seam."""

from moorwalk.checks import LAND, check_grid, is_land
from moorwalk.grids import beside, land
from moorwalk.pieces import pieces, ponds


def joins(grid):
    """Tell how many pairs of land cells are beside one another."""
    told = 0
    for row, column in land(grid):
        told += all_land(grid, ((row, column + 1),))
        told += all_land(grid, ((row + 1, column),))
    return told


def blocks(grid):
    """Tell how many fours of land cells stand two by two."""
    told = 0
    for row, column in land(grid):
        told += all_land(grid, ((row, column + 1), (row + 1, column), (row + 1, column + 1)))
    return told


def all_land(grid, cells):
    """Tell 1 if all of these are land cells of the grid, 0 if not."""
    return 1 if all([is_land(grid, cell) for cell in cells]) else 0


def balance(grid):
    """Tell the land cells less the joins and the blocks more."""
    return len(land(grid)) - joins(grid) + blocks(grid)


def corners(grid):
    """Tell how many outward and how many inward corners the land has."""
    check_grid(grid)
    outward = 0
    inward = 0
    for row in range(len(grid) + 1):
        for column in range(len(grid[0]) + 1):
            lands = lands_around(grid, row, column)
            outward += outward_at(lands)
            inward += inward_at(lands)
    return (outward, inward)


def lands_around(grid, row, column):
    """Tell of the four cells around the upper left spot of this one, in turn, which are land."""
    around = ((row - 1, column - 1), (row - 1, column), (row, column), (row, column - 1))
    return [is_land(grid, cell) for cell in around]


def outward_at(lands):
    """Tell how many outward corners a spot with these four around it makes."""
    many = lands.count(True)
    # Two of the four touch by their corners alone if they are opposite in turn.
    if many == 2 and lands[0] == lands[2]:
        return 2
    return 1 if many == 1 else 0


def inward_at(lands):
    """Tell how many inward corners a spot with these four around it makes."""
    return 1 if lands.count(True) == 3 else 0


def stretches(grid):
    """Tell the column, the first and the last row of each stretch, in order."""
    check_grid(grid)
    told = []
    for column in range(len(grid[0])):
        for first, last in runs([signs[column] == LAND for signs in grid]):
            told.append((column, first, last))
    return told


def runs(marks):
    """Tell the first and the last place of each run of true marks, as long as can be."""
    told = []
    first = None
    for place, mark in enumerate([*marks, False]):
        if mark and first is None:
            first = place
        elif not mark and first is not None:
            told.append((first, place - 1))
            first = None
    return told


def touches(grid):
    """Tell the counts of each two stretches that touch, in order."""
    all_stretches = stretches(grid)
    told = []
    for count, one in enumerate(all_stretches):
        for later in range(count + 1, len(all_stretches)):
            if touch(one, all_stretches[later]):
                told.append((count, later))
    return told


def touch(one, other):
    """Tell whether the other stretch, not left of the one, touches it."""
    column, first, last = one
    other_column, other_first, other_last = other
    return other_column == column + 1 and first <= other_last and other_first <= last


def seam(one, other):
    """Tell the stretches of land on both sides, the pieces fewer and the ponds more."""
    both = beside(one, other)
    fewer = len(pieces(one)) + len(pieces(other)) - len(pieces(both))
    more = len(ponds(both)) - len(ponds(one)) - len(ponds(other))
    return (len(runs(land_across(one, other))), fewer, more)


def land_across(one, other):
    """Tell of each row whether the cells on both sides of the seam are land."""
    return [left[-1] == LAND and right[0] == LAND for left, right in zip(one, other)]
