"""What a flipped cell changes, and grids worn down to cells that are not simple."""

from moorwalk.checks import check_grid, check_land, is_land
from moorwalk.grids import flipped, land
from moorwalk.pieces import pieces, ponds

# The eight cells near a cell, around it in turn, its sides at the even places.
AROUND = ((-1, 0), (-1, 1), (0, 1), (1, 1), (1, 0), (1, -1), (0, -1), (-1, -1))


def change(grid, cell):
    """Tell how many pieces and how many ponds more there are with this cell flipped."""
    other = flipped(grid, cell)
    return (len(pieces(other)) - len(pieces(grid)), len(ponds(other)) - len(ponds(grid)))


def simple(grid, cell):
    """Tell whether the land cell can be flipped with as many pieces and ponds."""
    check_grid(grid)
    check_land(grid, cell)
    return is_simple(grid, cell)


def is_simple(grid, cell):
    """Tell by the eight cells near a land cell whether it is simple."""
    lands = [is_land(grid, other) for other in near(cell)]
    parts = 0
    for side in (0, 2, 4, 6):
        # Land of two sides holds together without the cell if the corner between is land.
        if lands[side] and not (lands[side + 1] and lands[(side + 2) % 8]):
            parts += 1
    # With none the cell is a piece, or a pond comes where it was; with two or more
    # a piece falls apart, or waters that were parted come together.
    return parts == 1


def near(cell):
    """Tell the eight cells near a cell, around it in turn, also outside the grid."""
    row, column = cell
    return [(row + down, column + right) for down, right in AROUND]


def worn(grid):
    """Tell the cells that are flipped, in their turn, and the grid that is left."""
    check_grid(grid)
    left = list(grid)
    taken = []
    waiting = land(left)[::-1]
    while waiting:
        cell = waiting.pop()
        if is_land(left, cell) and is_simple(left, cell):
            left = flipped(left, cell)
            taken.append(cell)
            # Only what is near the flipped cell can have become simple by it.
            waiting.extend(near(cell))
    return (taken, left)
