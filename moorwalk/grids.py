"""Grids: their land, and the grids that come of them."""

from moorwalk.checks import LAND, MOST, WATER, check_cell, check_grid
from moorwalk.errors import BadSeam


def land(grid):
    """Tell the land cells, rising."""
    check_grid(grid)
    return cells_with(grid, LAND)


def cells_with(grid, sign):
    """Tell the cells of this sign, rising."""
    told = []
    for row, signs in enumerate(grid):
        for column, here in enumerate(signs):
            if here == sign:
                told.append((row, column))
    return told


def flipped(grid, cell):
    """Tell the grid in which this one cell is the other sign."""
    check_grid(grid)
    check_cell(grid, cell)
    row, column = cell
    signs = grid[row]
    told = list(grid)
    told[row] = signs[:column] + other_sign(signs[column]) + signs[column + 1:]
    return told


def other_sign(sign):
    """Tell water for land, land for water."""
    return WATER if sign == LAND else LAND


def mirrored(grid):
    """Tell the grid with left and right exchanged."""
    check_grid(grid)
    return [signs[::-1] for signs in grid]


def quartered(grid):
    """Tell the grid turned by a quarter, its left column up to the top row."""
    check_grid(grid)
    return [column_upward(grid, column) for column in range(len(grid[0]))]


def column_upward(grid, column):
    """Tell the signs of a column from the bottom up."""
    return "".join([signs[column] for signs in reversed(grid)])


def beside(one, other):
    """Tell the grid of both, the first one on the left."""
    check_seam(one, other)
    return [left + right for left, right in zip(one, other)]


def check_seam(one, other):
    """Refuse two grids that cannot be put beside one another."""
    check_grid(one)
    check_grid(other)
    if len(one) != len(other):
        raise BadSeam("the grids have unlike many rows")
    if len(one[0]) + len(other[0]) > MOST:
        raise BadSeam("the grids are together wider than 16")
