"""Promises 1 and 3: grids, their land, and the grids that come of them."""

import unittest

from refusals import MoorTest
from shapes import mixed_grids, small_grids, wrong_cells, wrong_grids

from moorwalk.errors import BadCell, BadGrid, BadSeam
from moorwalk.grids import beside, flipped, land, mirrored, quartered

ALL_LAND = ["#" * 16] * 16
ALL_WATER = ["." * 16] * 16


def some_grids():
    yield from small_grids()
    yield from mixed_grids(60)


class LandTest(MoorTest):
    def test_ordinary(self):
        self.assertEqual(land(["#.", ".#"]), [(0, 0), (1, 1)])
        self.assertEqual(land(["..#", "##."]), [(0, 2), (1, 0), (1, 1)])

    def test_one_cell(self):
        self.assertEqual(land(["#"]), [(0, 0)])
        self.assertEqual(land(["."]), [])

    def test_one_row_and_one_column(self):
        self.assertEqual(land([".#.##"]), [(0, 1), (0, 3), (0, 4)])
        self.assertEqual(land(["#", ".", "#"]), [(0, 0), (2, 0)])

    def test_largest(self):
        every = [(row, column) for row in range(16) for column in range(16)]
        self.assertEqual(land(ALL_LAND), every)
        self.assertEqual(land(ALL_WATER), [])

    def test_cells_are_tuples_in_rising_order(self):
        for grid in some_grids():
            told = land(grid)
            self.assertIsInstance(told, list)
            self.assertEqual(told, sorted(told))
            self.assertEqual(len(told), sum(row.count("#") for row in grid))
            for cell in told:
                self.assertIs(type(cell), tuple)
                self.assertEqual(grid[cell[0]][cell[1]], "#")


class FlippedTest(MoorTest):
    def test_ordinary(self):
        self.assertEqual(flipped(["#.", ".#"], (0, 0)), ["..", ".#"])
        self.assertEqual(flipped(["#.", ".#"], (0, 1)), ["##", ".#"])
        self.assertEqual(flipped(["#..", ".#.", "..."], (2, 1)), ["#..", ".#.", ".#."])

    def test_one_cell(self):
        self.assertEqual(flipped(["#"], (0, 0)), ["."])
        self.assertEqual(flipped(["."], (0, 0)), ["#"])

    def test_last_cell_of_the_largest(self):
        told = flipped(ALL_LAND, (15, 15))
        self.assertEqual(told, ["#" * 16] * 15 + ["#" * 15 + "."])

    def test_just_that_cell_and_back(self):
        for grid in mixed_grids(20):
            for row in range(len(grid)):
                for column in range(len(grid[0])):
                    told = flipped(grid, (row, column))
                    unlike = [
                        (at, place)
                        for at in range(len(grid))
                        for place in range(len(grid[0]))
                        if told[at][place] != grid[at][place]
                    ]
                    self.assertEqual(unlike, [(row, column)])
                    self.assertEqual(flipped(told, (row, column)), grid)

    def test_wrong_cells(self):
        for name, cell in wrong_cells().items():
            with self.subTest(name):
                self.refused(BadCell, flipped, ["#.#", ".#."], cell)

    def test_grid_is_looked_at_first(self):
        for name, cell in wrong_cells().items():
            with self.subTest(name):
                self.refused(BadGrid, flipped, ["#.#", ".#"], cell)
                self.refused(BadGrid, flipped, None, cell)


class MirroredTest(MoorTest):
    def test_ordinary(self):
        self.assertEqual(mirrored(["#.", "##"]), [".#", "##"])
        self.assertEqual(mirrored(["##.", "#..", "..."]), [".##", "..#", "..."])

    def test_one_cell_one_row_one_column(self):
        self.assertEqual(mirrored(["#"]), ["#"])
        self.assertEqual(mirrored(["#.##."]), [".##.#"])
        self.assertEqual(mirrored(["#", ".", "."]), ["#", ".", "."])

    def test_largest(self):
        self.assertEqual(mirrored(ALL_LAND), ALL_LAND)
        self.assertEqual(mirrored(["#" + "." * 15] * 16), ["." * 15 + "#"] * 16)

    def test_cells_and_twice(self):
        for grid in some_grids():
            told = mirrored(grid)
            wide = len(grid[0])
            expected = sorted((row, wide - 1 - column) for row, column in land(grid))
            self.assertEqual(land(told), expected)
            self.assertEqual(mirrored(told), grid)


class QuarteredTest(MoorTest):
    def test_left_column_from_the_bottom_up_becomes_the_top_row(self):
        self.assertEqual(quartered(["#.", "#.", ".."]), [".##", "..."])
        self.assertEqual(quartered(["#.", ".."]), [".#", ".."])
        self.assertEqual(quartered([".#.", "..."]), ["..", ".#", ".."])

    def test_one_cell_one_row_one_column(self):
        self.assertEqual(quartered(["#"]), ["#"])
        self.assertEqual(quartered(["#.."]), ["#", ".", "."])
        self.assertEqual(quartered(["#", ".", "."]), ["..#"])

    def test_largest(self):
        self.assertEqual(quartered(ALL_LAND), ALL_LAND)
        self.assertEqual(quartered(["#" + "." * 15] * 16), ["#" * 16] + ["." * 16] * 15)
        self.assertEqual(quartered(["#" * 16]), ["#"] * 16)

    def test_cells_and_four_times(self):
        for grid in some_grids():
            told = quartered(grid)
            self.assertEqual((len(told), len(told[0])), (len(grid[0]), len(grid)))
            high = len(grid)
            expected = sorted((column, high - 1 - row) for row, column in land(grid))
            self.assertEqual(land(told), expected)
            self.assertEqual(quartered(quartered(quartered(told))), grid)


class BesideTest(MoorTest):
    def test_first_one_on_the_left(self):
        self.assertEqual(beside(["#.", ".."], [".", "#"]), ["#..", "..#"])
        self.assertEqual(beside([".", "#"], ["#.", ".."]), [".#.", "#.."])

    def test_one_cell_each(self):
        self.assertEqual(beside(["#"], ["."]), ["#."])

    def test_with_itself(self):
        grid = ["#.", "##"]
        self.assertEqual(beside(grid, grid), ["#.#.", "####"])
        self.assertEqual(grid, ["#.", "##"])

    def test_just_16_wide_together(self):
        half = ["#......."] * 16
        self.assertEqual(beside(half, half), ["#.......#......."] * 16)
        self.assertEqual(beside(["#"], ["." * 15]), ["#" + "." * 15])
        self.assertEqual(beside(["#" * 15], ["."]), ["#" * 15 + "."])

    def test_too_wide(self):
        self.refused(BadSeam, beside, ["#" * 8], ["#" * 9])
        self.refused(BadSeam, beside, ["#" * 16], ["#"])
        self.refused(BadSeam, beside, ["#"], ["#" * 16])
        self.refused(BadSeam, beside, ALL_LAND, ALL_WATER)

    def test_unlike_many_rows(self):
        self.refused(BadSeam, beside, ["#"], ["#", "#"])
        self.refused(BadSeam, beside, ["#", "#"], ["#"])
        self.refused(BadSeam, beside, ["#"] * 15, ["#"] * 16)
        self.refused(BadSeam, beside, ["#" * 9], ["#" * 9] * 2)

    def test_either_is_no_grid(self):
        for name, wrong in wrong_grids().items():
            with self.subTest(name):
                self.refused(BadGrid, beside, wrong, ["#"])
                self.refused(BadGrid, beside, ["#"], wrong)
                self.refused(BadGrid, beside, ["#"] * 16, wrong)
                self.refused(BadGrid, beside, wrong, ["#" * 16])
                self.refused(BadGrid, beside, wrong, wrong)


class AllGridsTest(MoorTest):
    ASKED = (land, mirrored, quartered)

    def test_wrong_grids(self):
        for name, wrong in wrong_grids().items():
            with self.subTest(name):
                for function in self.ASKED:
                    self.refused(BadGrid, function, wrong)
                self.refused(BadGrid, flipped, wrong, (0, 0))

    def test_every_size_up_to_16_is_a_grid(self):
        for rows in range(1, 17):
            for columns in range(1, 17):
                grid = ["#" * columns] * rows
                self.assertEqual(len(land(grid)), rows * columns)
                self.assertEqual(mirrored(grid), grid)
                self.assertEqual(quartered(grid), ["#" * rows] * columns)
                self.assertEqual(len(flipped(grid, (rows - 1, columns - 1))), rows)

    def test_nothing_is_changed_or_kept(self):
        for grid in list(mixed_grids(12)) + [["#"], ["."], ALL_LAND]:
            for function in self.ASKED:
                self.tells_new(function, list(grid))
            self.tells_new(flipped, list(grid), (0, 0))
            self.tells_new(beside, [row[:8] for row in grid], [row[-8:] for row in grid])

    def test_a_grid_changed_in_between_is_told_anew(self):
        grid = ["#.", "##"]
        self.assertEqual(land(grid), [(0, 0), (1, 0), (1, 1)])
        told = mirrored(grid)
        grid[1] = ".."
        self.assertEqual(told, [".#", "##"])
        self.assertEqual(land(grid), [(0, 0)])
        self.assertEqual(quartered(grid), [".#", ".."])

    def test_a_refusal_changes_nothing(self):
        grid = ["#.", "#", "x"]
        for function in self.ASKED:
            self.refused(BadGrid, function, grid)
        self.refused(BadGrid, flipped, grid, (0, 0))
        self.refused(BadGrid, beside, ["#"], grid)
        self.assertEqual(grid, ["#.", "#", "x"])


if __name__ == "__main__":
    unittest.main()
