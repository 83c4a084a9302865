"""Promises 2, 4 and 5: pieces, ponds and the outer water, and how they nest."""

import unittest

from refusals import MoorTest
from shapes import mixed_grids, small_grids, wrong_grids

from moorwalk.errors import BadGrid
from moorwalk.grids import mirrored, quartered
from moorwalk.pieces import nest, outer, pieces, ponds

DEEP = [
    "#########",
    "#.......#",
    "#.#####.#",
    "#.#...#.#",
    "#.#.#.#.#",
    "#.#...#.#",
    "#.#####.#",
    "#.......#",
    "#########",
]
SIDES = ((-1, 0), (0, -1), (0, 1), (1, 0))
CORNERS = ((-1, -1), (-1, 1), (1, -1), (1, 1))


def least_labels(grid):
    """For each cell of the grid within a frame of water the least cell that it is led to.

    It is found by handing lesser labels on till nothing changes, with no search.
    """
    wide = len(grid[0]) + 2
    framed = ["." * wide] + ["." + row + "." for row in grid] + ["." * wide]
    labels = {(row, column): (row, column) for row in range(len(framed)) for column in range(wide)}
    changed = True
    while changed:
        changed = False
        for (row, column), label in list(labels.items()):
            sign = framed[row][column]
            for down, right in SIDES if sign == "#" else SIDES + CORNERS:
                other = (row + down, column + right)
                if other in labels and framed[other[0]][other[1]] == sign:
                    if labels[other] < labels[(row, column)]:
                        labels[(row, column)] = labels[other]
                        changed = True
    return framed, labels


def expected_parts(grid):
    """Pieces, ponds and outer water by the labels."""
    framed, labels = least_labels(grid)
    land, water = {}, {}
    for cell in sorted(labels):
        bucket = land if framed[cell[0]][cell[1]] == "#" else water
        bucket.setdefault(labels[cell], []).append((cell[0] - 1, cell[1] - 1))
    outside = [
        (row, column) for row, column in water.pop((0, 0))
        if 0 <= row < len(grid) and 0 <= column < len(grid[0])
    ]
    return list(land.values()), list(water.values()), outside


class PiecesTest(MoorTest):
    def test_by_sides_alone(self):
        self.assertEqual(pieces(["#.", ".#"]), [[(0, 0)], [(1, 1)]])
        self.assertEqual(pieces([".#", "#."]), [[(0, 1)], [(1, 0)]])
        self.assertEqual(pieces(["##", ".#"]), [[(0, 0), (0, 1), (1, 1)]])

    def test_none_and_one(self):
        self.assertEqual(pieces(["."]), [])
        self.assertEqual(pieces(["." * 16] * 16), [])
        self.assertEqual(pieces(["#"]), [[(0, 0)]])
        every = [(row, column) for row in range(16) for column in range(16)]
        self.assertEqual(pieces(["#" * 16] * 16), [every])

    def test_one_row_and_one_column(self):
        self.assertEqual(pieces(["#.##."]), [[(0, 0)], [(0, 2), (0, 3)]])
        self.assertEqual(pieces(["#", "#", ".", "#"]), [[(0, 0), (1, 0)], [(3, 0)]])

    def test_in_the_order_of_first_cells(self):
        # The second piece comes further left, but its first cell is later.
        self.assertEqual(
            pieces(["#.#", "..#", "###"]),
            [[(0, 0)], [(0, 2), (1, 2), (2, 0), (2, 1), (2, 2)]],
        )
        self.assertEqual(pieces([".#", "..", "#."]), [[(0, 1)], [(2, 0)]])

    def test_cells_of_a_winding_piece_are_rising(self):
        grid = ["#.###", "#.#.#", "###.#", "....#", "#####"]
        told = pieces(grid)
        self.assertEqual(len(told), 1)
        self.assertEqual(told[0], sorted(told[0]))
        self.assertEqual(len(told[0]), 17)


class PondsTest(MoorTest):
    def test_one_pond(self):
        self.assertEqual(ponds(["###", "#.#", "###"]), [[(1, 1)]])
        self.assertEqual(outer(["###", "#.#", "###"]), [])

    def test_corners_of_the_land_around_may_be_missing(self):
        # Land touches by corners alone, and water leads past by them.
        self.assertEqual(ponds([".#.", "#.#", ".#."]), [])
        self.assertEqual(outer([".#.", "#.#", ".#."]), [(0, 0), (0, 2), (1, 1), (2, 0), (2, 2)])

    def test_out_only_by_a_corner(self):
        grid = ["###.", "#.##", "####"]
        self.assertEqual(ponds(grid), [[(1, 1)]])
        grid = ["##.", "#.#", "###"]
        self.assertEqual(ponds(grid), [])
        self.assertEqual(outer(grid), [(0, 2), (1, 1)])
        grid = ["####", "#.##", "##.#", "###."]
        self.assertEqual(ponds(grid), [])
        self.assertEqual(outer(grid), [(1, 1), (2, 2), (3, 3)])

    def test_out_by_each_edge(self):
        self.assertEqual(ponds(["#.#", "#.#", "###"]), [])
        self.assertEqual(ponds(["###", "#.#", "#.#"]), [])
        self.assertEqual(ponds(["###", "..#", "###"]), [])
        self.assertEqual(ponds(["###", "#..", "###"]), [])

    def test_a_pond_held_together_by_a_corner(self):
        grid = ["####", "#.##", "##.#", "####"]
        self.assertEqual(ponds(grid), [[(1, 1), (2, 2)]])

    def test_edges(self):
        for grid in (["."], ["..."], [".", "."], ["." * 16] * 16):
            every = [(row, column) for row in range(len(grid)) for column in range(len(grid[0]))]
            self.assertEqual(ponds(grid), [])
            self.assertEqual(outer(grid), every)
        for grid in (["#"], ["###"], ["#", "#"], ["#" * 16] * 16):
            self.assertEqual(ponds(grid), [])
            self.assertEqual(outer(grid), [])
        self.assertEqual(outer(["#.#"]), [(0, 1)])

    def test_largest_pond(self):
        grid = ["#" * 16] + ["#" + "." * 14 + "#"] * 14 + ["#" * 16]
        inside = [(row, column) for row in range(1, 15) for column in range(1, 15)]
        self.assertEqual(ponds(grid), [inside])
        self.assertEqual(outer(grid), [])

    def test_in_the_order_of_first_cells(self):
        grid = ["######", "####.#", "#.#..#", "######"]
        self.assertEqual(ponds(grid), [[(1, 4), (2, 3), (2, 4)], [(2, 1)]])

    def test_land_in_a_pond_and_a_pond_in_that(self):
        told = ponds(DEEP)
        self.assertEqual([cells[0] for cells in told], [(1, 1), (3, 3)])
        self.assertEqual([len(cells) for cells in told], [24, 8])
        self.assertEqual([cells[0] for cells in pieces(DEEP)], [(0, 0), (2, 2), (4, 4)])
        self.assertEqual(outer(DEEP), [])


class NestTest(MoorTest):
    def test_none(self):
        self.assertEqual(nest(["."]), ([], []))
        self.assertEqual(nest(["." * 16] * 16), ([], []))

    def test_in_the_outer_water(self):
        self.assertEqual(nest(["#"]), ([-1], []))
        self.assertEqual(nest(["...", ".#.", "..#"]), ([-1, -1], []))
        self.assertEqual(nest(["#.", ".#"]), ([-1, -1], []))
        self.assertEqual(nest(["#" * 16] * 16), ([-1], []))

    def test_ponds_in_pieces(self):
        self.assertEqual(nest(["#####", "#.#.#", "#####"]), ([-1], [0, 0]))
        self.assertEqual(nest(["###.###", "#.#.#.#", "###.###"]), ([-1, -1], [0, 1]))
        # The first piece is one cell, and the pond is in the second one.
        self.assertEqual(nest(["#....", "..###", "..#.#", "..###"]), ([-1, -1], [1]))

    def test_pieces_in_ponds(self):
        grid = ["#####.#####", "#...#.#...#", "#.#.#.#.#.#", "#...#.#...#", "#####.#####"]
        self.assertEqual(nest(grid), ([-1, -1, 0, 1], [0, 1]))
        self.assertEqual(nest(["#######", "#.....#", "#.#.#.#", "#.....#", "#######"]),
                         ([-1, 0, 0], [0]))

    def test_deep(self):
        self.assertEqual(nest(DEEP), ([-1, 0, 1], [0, 1]))
        self.assertEqual(nest([".........."] + ["." + row for row in DEEP]), ([-1, 0, 1], [0, 1]))

    def test_deepest(self):
        grid = []
        for row in range(16):
            signs = ""
            for column in range(16):
                ring = min(row, column, 15 - row, 15 - column)
                signs += "#" if ring % 2 == 0 else "."
            grid.append(signs)
        self.assertEqual(nest(grid), ([-1, 0, 1, 2], [0, 1, 2, 3]))

    def test_by_the_cell_above_the_first_cell(self):
        # The later pond is the one whose count is named, not the count in its piece.
        grid = ["#########", "#.#.....#", "###.###.#", "#...#.#.#", "#.#.###.#", "#.......#", "#########"]
        self.assertEqual([cells[0] for cells in ponds(grid)], [(1, 1), (1, 3), (3, 5)])
        self.assertEqual([cells[0] for cells in pieces(grid)], [(0, 0), (2, 4), (4, 2)])
        self.assertEqual(nest(grid), ([-1, 1, 1], [0, 0, 1]))

    def test_a_tuple_of_two_lists(self):
        told = nest(["###", "#.#", "###"])
        self.assertIs(type(told), tuple)
        self.assertEqual([type(part) for part in told], [list, list])
        empty = nest(["."])
        self.assertIsNot(empty[0], empty[1])


class AllGridsTest(MoorTest):
    ASKED = (pieces, ponds, outer, nest)

    def check_grid(self, grid):
        all_pieces, all_ponds, outside = expected_parts(grid)
        self.assertEqual(pieces(grid), all_pieces)
        self.assertEqual(ponds(grid), all_ponds)
        self.assertEqual(outer(grid), outside)
        self.check_nest(grid, all_pieces, all_ponds, outside)

    def check_nest(self, grid, all_pieces, all_ponds, outside):
        places = {cell: ("piece", at) for at, cells in enumerate(all_pieces) for cell in cells}
        for at, cells in enumerate(all_ponds):
            places.update({cell: ("pond", at) for cell in cells})
        places.update({cell: ("pond", -1) for cell in outside})
        self.assertEqual(len(places), len(grid) * len(grid[0]))
        in_ponds, in_pieces = nest(grid)
        above = [places.get((cells[0][0] - 1, cells[0][1]), ("pond", -1)) for cells in all_pieces]
        self.assertEqual([("pond", at) for at in in_ponds], above)
        above = [places[(cells[0][0] - 1, cells[0][1])] for cells in all_ponds]
        self.assertEqual([("piece", at) for at in in_pieces], above)
        for at in range(len(all_pieces)):
            self.check_leads_out(at, in_ponds, in_pieces)

    def check_leads_out(self, at, in_ponds, in_pieces):
        for _ in range(len(in_ponds)):
            if in_ponds[at] == -1:
                return
            at = in_pieces[in_ponds[at]]
        self.fail("a piece leads around")

    def test_all_small_grids(self):
        for grid in small_grids():
            self.check_grid(grid)

    def test_mixed_grids(self):
        for grid in mixed_grids(80):
            self.check_grid(grid)

    def test_kinds(self):
        for grid in mixed_grids(20):
            for told in (pieces(grid), ponds(grid)):
                self.assertIs(type(told), list)
                for cells in told:
                    self.assertIs(type(cells), list)
                    self.assertTrue(all(type(cell) is tuple for cell in cells))
            self.assertIs(type(outer(grid)), list)
            self.assertTrue(all(type(cell) is tuple for cell in outer(grid)))

    def test_pieces_less_ponds(self):
        for grid in mixed_grids(60):
            cells = {cell for cells in pieces(grid) for cell in cells}
            joins = sum((row, column + 1) in cells for row, column in cells)
            joins += sum((row + 1, column) in cells for row, column in cells)
            blocks = sum(
                {(row, column + 1), (row + 1, column), (row + 1, column + 1)} <= cells
                for row, column in cells
            )
            self.assertEqual(len(pieces(grid)) - len(ponds(grid)), len(cells) - joins + blocks)

    def test_as_many_mirrored_and_turned(self):
        for grid in mixed_grids(60):
            for turned in (mirrored(grid), quartered(grid)):
                for function in (pieces, ponds):
                    sizes = sorted(len(cells) for cells in function(grid))
                    self.assertEqual(sorted(len(cells) for cells in function(turned)), sizes)
                self.assertEqual(len(outer(turned)), len(outer(grid)))

    def test_wrong_grids(self):
        for name, wrong in wrong_grids().items():
            with self.subTest(name):
                for function in self.ASKED:
                    self.refused(BadGrid, function, wrong)

    def test_nothing_is_changed_or_kept(self):
        for grid in list(mixed_grids(12)) + [["#"], ["."], list(DEEP)]:
            for function in self.ASKED:
                self.tells_new(function, list(grid))

    def test_a_grid_changed_in_between_is_told_anew(self):
        grid = ["###", "#.#", "###"]
        self.assertEqual(nest(grid), ([-1], [0]))
        grid[1] = "#.."
        self.assertEqual(ponds(grid), [])
        self.assertEqual(outer(grid), [(1, 1), (1, 2)])
        self.assertEqual(nest(grid), ([-1], []))


if __name__ == "__main__":
    unittest.main()
