"""What grids and cells are, and the refusal of what is none."""

from moorwalk.errors import BadCell, BadGrid, NoLand

LAND = "#"
WATER = "."
MOST = 16


def check_grid(grid):
    """Refuse what is no grid."""
    if not isinstance(grid, list) or not 1 <= len(grid) <= MOST:
        raise BadGrid("a grid is a list of 1 to 16 rows")
    for row in grid:
        check_row(row)
        if len(row) != len(grid[0]):
            raise BadGrid("the rows of a grid are of one length")


def check_row(row):
    """Refuse what is no row of a grid."""
    if not isinstance(row, str) or not 1 <= len(row) <= MOST:
        raise BadGrid("a row is a text of 1 to 16 signs")
    for sign in row:
        if sign not in (LAND, WATER):
            raise BadGrid("the signs of a row are # and .")


def check_cell(grid, cell):
    """Refuse what is no cell of this grid."""
    if not isinstance(cell, tuple) or len(cell) != 2:
        raise BadCell("a cell is a pair of its row and its column")
    row, column = cell
    if not is_number(row) or not is_number(column):
        raise BadCell("the row and the column of a cell are whole numbers")
    if not lies_in(grid, cell):
        raise BadCell("the cell lies outside the grid")


def check_land(grid, cell):
    """Refuse what is no cell of this grid, then a cell of water."""
    check_cell(grid, cell)
    if not is_land(grid, cell):
        raise NoLand("the cell is water")


def is_number(thing):
    """Tell whether it is a whole number; True and False are none."""
    return isinstance(thing, int) and not isinstance(thing, bool)


def lies_in(grid, cell):
    """Tell whether a pair of whole numbers is a cell of the grid."""
    row, column = cell
    return 0 <= row < len(grid) and 0 <= column < len(grid[0])


def has_sign(grid, cell, sign):
    """Tell whether it is a cell of the grid and of this sign."""
    row, column = cell
    return lies_in(grid, cell) and grid[row][column] == sign


def is_land(grid, cell):
    """Tell whether it is a land cell of the grid."""
    return has_sign(grid, cell, LAND)
