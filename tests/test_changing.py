"""Promises 10, 11 and 12: what a flipped cell changes, simple cells, worn grids."""

import itertools
import unittest

from refusals import MoorTest
from shapes import mixed_grids, rings, small_grids, wrong_cells, wrong_grids

from moorwalk.changing import change, simple, worn
from moorwalk.errors import BadCell, BadGrid, NoLand
from moorwalk.grids import flipped, land, mirrored, quartered
from moorwalk.pieces import pieces, ponds

ALL_LAND = ["#" * 16] * 16
ALL_WATER = ["." * 16] * 16
RING = ["###", "#.#", "###"]
SNAKE = ["#" * 16, "." * 15 + "#", "#" * 16, "#" + "." * 15] * 4
FRAMED = ["#######", "#.....#", "#.....#", "#.....#", "#.....#", "#.....#", "#######"]


def counts_of(grid):
    return len(pieces(grid)), len(ponds(grid))


def cells_of_grid(grid):
    return [(row, column) for row in range(len(grid)) for column in range(len(grid[0]))]


def neighbourhoods():
    """All grids of three by three, in the middle of water and of a ring of land."""
    for signs in itertools.product("#.", repeat=8):
        near = "".join(signs[:4]) + "#" + "".join(signs[4:])
        rows = [near[:3], near[3:6], near[6:]]
        yield rows, (1, 1)
        yield ["....."] + ["." + row + "." for row in rows] + ["....."], (2, 2)
        middle = [row[:2] + near + row[5:] for row, near in zip(FRAMED[2:5], rows)]
        yield FRAMED[:2] + middle + FRAMED[5:], (3, 3)
        middle = [row[:1] + near + row[4:] for row, near in zip(FRAMED[1:4], rows)]
        yield FRAMED[:1] + middle + FRAMED[4:], (2, 2)


class ChangeTest(MoorTest):
    def test_land_cells(self):
        self.assertEqual(change(["#"], (0, 0)), (-1, 0))
        self.assertEqual(change(["##"], (0, 0)), (0, 0))
        self.assertEqual(change(["###"], (0, 1)), (1, 0))
        self.assertEqual(change(["#", "#", "#"], (1, 0)), (1, 0))
        self.assertEqual(change([".#.", "###", ".#."], (1, 1)), (3, 0))
        self.assertEqual(change(["###", "###", "###"], (1, 1)), (0, 1))
        self.assertEqual(change(["##.", "###", "###"], (1, 1)), (0, 0))
        self.assertEqual(change(RING, (0, 1)), (0, -1))
        self.assertEqual(change(RING, (0, 0)), (0, -1))

    def test_water_cells(self):
        self.assertEqual(change(["."], (0, 0)), (1, 0))
        self.assertEqual(change(["#."], (0, 1)), (0, 0))
        self.assertEqual(change(["#.#"], (0, 1)), (-1, 0))
        self.assertEqual(change([".#.", "#.#", ".#."], (1, 1)), (-3, 0))
        self.assertEqual(change(RING, (1, 1)), (0, -1))
        self.assertEqual(change(["###", "#.#", "#.#"], (2, 1)), (0, 1))
        self.assertEqual(change(["###", "#.#", "##."], (2, 2)), (0, 1))
        self.assertEqual(change(["#.", ".#"], (0, 1)), (-1, 0))

    def test_pieces_and_ponds_at_once(self):
        self.assertEqual(change(["###.", "#..#", "###."], (1, 2)), (-1, 1))
        self.assertEqual(change(["###.", "#.##", "###."], (1, 2)), (1, -1))
        self.assertEqual(change(["#####", "#...#", "#.#.#", "#...#", "#####"], (0, 0)), (0, -1))

    def test_ponds_that_are_parted_and_come_together(self):
        two = ["#####", "#.#.#", "#####"]
        self.assertEqual(change(two, (1, 2)), (0, -1))
        self.assertEqual(change(["#####", "#...#", "#####"], (1, 2)), (0, 1))

    def test_a_piece_in_a_pond(self):
        grid = ["#####", "#...#", "#...#", "#...#", "#####"]
        self.assertEqual(change(grid, (2, 2)), (1, 0))
        self.assertEqual(change(grid, (1, 1)), (0, 0))

    def test_largest(self):
        self.assertEqual(change(ALL_LAND, (0, 0)), (0, 0))
        self.assertEqual(change(ALL_LAND, (0, 7)), (0, 0))
        self.assertEqual(change(ALL_LAND, (15, 15)), (0, 0))
        self.assertEqual(change(ALL_LAND, (7, 7)), (0, 1))
        self.assertEqual(change(ALL_WATER, (15, 0)), (1, 0))
        self.assertEqual(change(rings(), (0, 8)), (0, -1))
        self.assertEqual(change(rings(), (1, 8)), (-1, 0))

    def check_all_cells(self, grid, step=1):
        told_ahead = counts_of(grid)
        for cell in cells_of_grid(grid)[::step]:
            other = flipped(grid, cell)
            told = counts_of(other)
            expected = (told[0] - told_ahead[0], told[1] - told_ahead[1])
            self.assertEqual(change(grid, cell), expected)
            self.assertEqual(change(other, cell), (-expected[0], -expected[1]))

    def test_all_cells_there_and_back(self):
        for at, grid in enumerate(small_grids()):
            if at % 5 == 0:
                self.check_all_cells(grid)
        for grid in mixed_grids(30):
            self.check_all_cells(grid, 7)

    def test_a_pair_of_numbers(self):
        told = change(["#."], (0, 1))
        self.assertIs(type(told), tuple)
        self.assertEqual([type(part) for part in told], [int, int])

    def test_wrong_cells(self):
        for name, cell in wrong_cells().items():
            with self.subTest(name):
                self.refused(BadCell, change, ["#.#", ".#."], cell)

    def test_grid_is_looked_at_first(self):
        for name, cell in wrong_cells().items():
            with self.subTest(name):
                self.refused(BadGrid, change, ["#.#", ".#"], cell)
        for name, wrong in wrong_grids().items():
            with self.subTest(name):
                self.refused(BadGrid, change, wrong, (0, 0))
                self.refused(BadGrid, change, wrong, (99, 0))


class SimpleTest(MoorTest):
    def test_a_lone_cell(self):
        self.assertIs(simple(["#"], (0, 0)), False)
        self.assertIs(simple(["#.#", "...", "#.#"], (0, 0)), False)
        self.assertIs(simple(["#.#", ".#.", "#.#"], (1, 1)), False)

    def test_ends_and_rims(self):
        self.assertIs(simple(["##"], (0, 0)), True)
        self.assertIs(simple(["##"], (0, 1)), True)
        self.assertIs(simple(["#", "#"], (1, 0)), True)
        for cell in ((0, 0), (0, 7), (7, 0), (15, 7), (7, 15), (15, 15)):
            self.assertIs(simple(ALL_LAND, cell), True)

    def test_within_all_land(self):
        self.assertIs(simple(["###"] * 3, (1, 1)), False)
        self.assertIs(simple(ALL_LAND, (7, 7)), False)
        # The pond would lead out by the corner.
        self.assertIs(simple(["##.", "###", "###"], (1, 1)), True)
        self.assertIs(simple(["#.#", "###", "###"], (1, 1)), True)

    def test_what_joins_pieces(self):
        self.assertIs(simple(["###"], (0, 1)), False)
        self.assertIs(simple(["#", "#", "#"], (1, 0)), False)
        self.assertIs(simple(["##", "#."], (0, 0)), False)
        self.assertIs(simple(["##", "##"], (0, 0)), True)
        self.assertIs(simple([".#.", "###", ".#."], (1, 1)), False)

    def test_what_parts_a_pond_from_the_outer_water(self):
        for cell in land(RING):
            self.assertIs(simple(RING, cell), False)
        thick = ["####", "#.##", "####"]
        self.assertIs(simple(thick, (0, 3)), True)
        self.assertIs(simple(thick, (1, 2)), True)
        self.assertIs(simple(thick, (0, 2)), False)

    def test_what_parts_two_ponds(self):
        two = ["#####", "#.#.#", "#####"]
        self.assertIs(simple(two, (1, 2)), False)
        self.assertIs(simple(["#####", "#.###", "###.#", "#####"], (1, 2)), False)
        self.assertIs(simple(["#####", "#.###", "###.#", "#####"], (2, 1)), True)

    def check_simple(self, grid, cell):
        told = simple(grid, cell)
        self.assertIs(type(told), bool)
        self.assertEqual(told, counts_of(flipped(grid, cell)) == counts_of(grid))

    def test_all_that_can_be_near_a_cell(self):
        for grid, cell in neighbourhoods():
            self.check_simple(grid, cell)

    def test_all_small_grids(self):
        for at, grid in enumerate(small_grids()):
            if at % 5 == 0:
                for cell in land(grid):
                    self.check_simple(grid, cell)

    def test_mixed_grids(self):
        for grid in [*mixed_grids(30), rings(), SNAKE, FRAMED]:
            for cell in land(grid)[::7]:
                self.check_simple(grid, cell)

    def test_mirrored_and_turned(self):
        for grid in mixed_grids(20):
            many = sum(simple(grid, cell) for cell in land(grid))
            for other in (mirrored(grid), quartered(grid)):
                self.assertEqual(sum(simple(other, cell) for cell in land(other)), many)

    def test_water(self):
        self.refused(NoLand, simple, ["."], (0, 0))
        self.refused(NoLand, simple, ["#.#"], (0, 1))
        self.refused(NoLand, simple, RING, (1, 1))
        self.refused(NoLand, simple, ALL_WATER, (15, 15))

    def test_wrong_cells(self):
        for name, cell in wrong_cells().items():
            with self.subTest(name):
                self.refused(BadCell, simple, ["#.#", ".#."], cell)
                self.refused(BadCell, simple, ["...", "..."], cell)

    def test_grid_is_looked_at_first(self):
        for name, cell in wrong_cells().items():
            with self.subTest(name):
                self.refused(BadGrid, simple, ["#.#", ".#"], cell)
        for name, wrong in wrong_grids().items():
            with self.subTest(name):
                self.refused(BadGrid, simple, wrong, (0, 0))
                self.refused(BadGrid, simple, wrong, None)


class WornTest(MoorTest):
    def check_worn(self, grid, step_by_step=True):
        told = worn(grid)
        self.assertIs(type(told), tuple)
        cells, left = told
        self.assertIs(type(cells), list)
        self.assertIs(type(left), list)
        ahead = counts_of(grid)
        here = grid
        for cell in cells:
            self.assertIs(type(cell), tuple)
            self.assertTrue(simple(here, cell))
            here = flipped(here, cell)
            if step_by_step:
                self.assertEqual(counts_of(here), ahead)
        self.assertEqual(here, left)
        self.assertEqual(counts_of(left), ahead)
        self.assertFalse(any(simple(left, cell) for cell in land(left)))
        if not ponds(grid):
            self.check_one_cell_of_each(grid, left)

    def check_one_cell_of_each(self, grid, left):
        self.assertEqual(len(land(left)), len(pieces(grid)))
        for cells in pieces(grid):
            self.assertEqual(sum(cell in cells for cell in land(left)), 1)

    def test_one_cell(self):
        self.assertEqual(worn(["#"]), ([], ["#"]))
        self.assertEqual(worn(["."]), ([], ["."]))

    def test_no_land(self):
        self.assertEqual(worn(ALL_WATER), ([], ALL_WATER))

    def test_a_grid_that_is_worn_already(self):
        for grid in (RING, ["#.#", ".#.", "#.#"], ["#####", "#.#.#", "#####"], rings()):
            self.assertEqual(worn(grid), ([], grid))
            self.assertIsNot(worn(grid)[1], grid)

    def test_twice_is_once(self):
        for grid in mixed_grids(20):
            left = worn(grid)[1]
            self.assertEqual(worn(left), ([], left))

    def test_two_cells(self):
        cells, left = worn(["##"])
        self.assertIn((cells, left), [([(0, 0)], [".#"]), ([(0, 1)], ["#."])])

    def test_one_row_and_one_column(self):
        for grid in (["####"], ["#.##.###"], ["#", "#", ".", "#"], ["#"] * 16, ["#" * 16]):
            self.check_worn(grid)

    def test_largest(self):
        cells, left = worn(ALL_LAND)
        self.assertEqual((len(cells), len(set(cells)), len(land(left))), (255, 255, 1))
        self.check_worn(ALL_LAND)
        self.check_worn(SNAKE)
        self.check_worn(["#" * 16] * 7 + ["#" * 7 + ".." + "#" * 7] * 2 + ["#" * 16] * 7)
        self.check_worn(["#" * 16, "#." * 8] * 8)

    def test_all_small_grids(self):
        for at, grid in enumerate(small_grids()):
            self.check_worn(grid, at % 10 == 0)

    def test_mixed_grids(self):
        for at, grid in enumerate(mixed_grids(80)):
            self.check_worn(grid, at % 10 == 0)

    def test_mixed_grids_without_ponds(self):
        # Ponds filled with land leave grids of larger pieces.
        for grid in mixed_grids(60):
            for cells in ponds(grid):
                for cell in cells:
                    grid = flipped(grid, cell)
            while ponds(grid):
                grid = flipped(grid, ponds(grid)[0][0])
            self.check_worn(grid, False)

    def test_wrong_grids(self):
        for name, wrong in wrong_grids().items():
            with self.subTest(name):
                self.refused(BadGrid, worn, wrong)


class KeptTest(MoorTest):
    def test_nothing_is_changed_or_kept(self):
        for grid in list(mixed_grids(12)) + [["#"], ["."], ALL_LAND, RING]:
            self.tells_new(worn, list(grid))
            self.tells_new(change, list(grid), (0, 0))
            for cell in land(grid)[:1]:
                self.tells_new(simple, list(grid), cell)

    def test_a_grid_changed_in_between_is_told_anew(self):
        grid = ["##", "##"]
        self.assertIs(simple(grid, (0, 0)), True)
        self.assertEqual(change(grid, (0, 0)), (0, 0))
        left = worn(grid)[1]
        self.assertEqual(len(land(left)), 1)
        grid[1] = "#."
        self.assertIs(simple(grid, (0, 0)), False)
        self.assertEqual(change(grid, (0, 0)), (1, 0))
        self.assertEqual(len(land(left)), 1)
        grid[0] = ".."
        self.assertEqual(worn(grid), ([], ["..", "#."]))

    def test_a_refusal_changes_nothing(self):
        grid = ["#.", "#", "x"]
        self.refused(BadGrid, worn, grid)
        self.refused(BadGrid, simple, grid, (0, 0))
        self.refused(BadGrid, change, grid, (0, 0))
        self.assertEqual(grid, ["#.", "#", "x"])


if __name__ == "__main__":
    unittest.main()
