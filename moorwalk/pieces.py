"""Pieces of land, ponds and outer water, and which of them lies in which."""

from moorwalk.checks import LAND, WATER, check_grid, has_sign
from moorwalk.grids import cells_with

BESIDE = ((-1, 0), (0, -1), (0, 1), (1, 0))
NEAR = ((-1, -1), (-1, 0), (-1, 1), (0, -1), (0, 1), (1, -1), (1, 0), (1, 1))


def pieces(grid):
    """Tell the cells of each piece of land, rising, by the first cells."""
    check_grid(grid)
    return groups(grid, LAND, BESIDE)


def ponds(grid):
    """Tell the cells of each pond, rising, by the first cells."""
    check_grid(grid)
    waters = groups(grid, WATER, NEAR)
    return [cells for cells in waters if not leads_out(grid, cells)]


def outer(grid):
    """Tell the water cells that are of no pond, rising."""
    check_grid(grid)
    told = []
    for cells in groups(grid, WATER, NEAR):
        if leads_out(grid, cells):
            told.extend(cells)
    return sorted(told)


def nest(grid):
    """Tell for each piece the pond, for each pond the piece it lies in."""
    all_pieces = pieces(grid)
    all_ponds = ponds(grid)
    return (counts_around(all_pieces, all_ponds), counts_around(all_ponds, all_pieces))


def groups(grid, sign, steps):
    """Tell all cells of the sign, parted by what the steps lead to."""
    done = set()
    told = []
    for first in cells_with(grid, sign):
        if first not in done:
            cells = reached(grid, first, steps)
            told.append(cells)
            for cell in cells:
                done.add(cell)
    return told


def reached(grid, first, steps):
    """Tell, rising, the cells of the first one's sign that the steps lead to."""
    sign = grid[first[0]][first[1]]
    seen = set()
    seen.add(first)
    waiting = [first]
    while waiting:
        row, column = waiting.pop()
        for down, right in steps:
            cell = (row + down, column + right)
            if cell not in seen and has_sign(grid, cell, sign):
                seen.add(cell)
                waiting.append(cell)
    return sorted(seen)


def leads_out(grid, cells):
    """Tell whether one of the water cells is beside the outside."""
    # A cell near the outside by a corner alone would lie at the edge too.
    last_row = len(grid) - 1
    last_column = len(grid[0]) - 1
    return any([row in (0, last_row) or column in (0, last_column) for row, column in cells])


def counts_around(inner, around):
    """Tell for each inner group the count of the one above its first cell, or -1."""
    counts = {}
    for count, cells in enumerate(around):
        for cell in cells:
            counts[cell] = count
    told = []
    for cells in inner:
        row, column = cells[0]
        told.append(counts.get((row - 1, column), -1))
    return told
