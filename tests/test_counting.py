"""Promises 6, 7, 8 and 9: joins, blocks, corners, stretches and seams."""

import unittest

from refusals import MoorTest
from shapes import grids_of, is_land_of, mixed_grids, rings, small_grids, wrong_grids

from moorwalk.counting import balance, blocks, corners, joins, seam, stretches, touches
from moorwalk.errors import BadGrid, BadSeam
from moorwalk.grids import beside, flipped, land, mirrored, quartered
from moorwalk.pieces import pieces, ponds

ALL_LAND = ["#" * 16] * 16
ALL_WATER = ["." * 16] * 16
CHECKED = ["#." * 8, ".#" * 8] * 8
RING = ["###", "#.#", "###"]


def some_grids():
    yield from small_grids()
    yield from mixed_grids(60)
    yield from (ALL_LAND, ALL_WATER, CHECKED, rings())


def windows(grid, high, wide):
    """The signs in each window of this size, the grid within a frame of water."""
    framed = ["." * (len(grid[0]) + 2)]
    framed += ["." + row + "." for row in grid] + ["." * (len(grid[0]) + 2)]
    for row in range(len(framed) - high + 1):
        for column in range(len(framed[0]) - wide + 1):
            yield "".join(signs[column:column + wide] for signs in framed[row:row + high])


class NumberTest(MoorTest):
    def is_number(self, told, expected):
        self.assertIs(type(told), int)
        self.assertEqual(told, expected)


class JoinsTest(NumberTest):
    def test_ordinary(self):
        self.is_number(joins(["##", "#."]), 2)
        self.is_number(joins(["##", "##"]), 4)
        self.is_number(joins(RING), 8)

    def test_corners_do_not_join(self):
        self.is_number(joins(["#.", ".#"]), 0)
        self.is_number(joins([".#", "#."]), 0)
        self.is_number(joins(CHECKED), 0)

    def test_rows_and_edges_do_not_lead_on(self):
        self.is_number(joins(["..#", "#.."]), 0)
        self.is_number(joins(["#.#"]), 0)
        self.is_number(joins(["#", ".", "#"]), 0)

    def test_one_cell_one_row_one_column(self):
        self.is_number(joins(["#"]), 0)
        self.is_number(joins(["."]), 0)
        self.is_number(joins(["##.###"]), 3)
        self.is_number(joins(["#", "#", ".", "#", "#"]), 2)

    def test_largest(self):
        self.is_number(joins(ALL_LAND), 480)
        self.is_number(joins(ALL_WATER), 0)

    def test_all(self):
        for grid in some_grids():
            expected = list(windows(grid, 1, 2)).count("##") + list(windows(grid, 2, 1)).count("##")
            self.is_number(joins(grid), expected)


class BlocksTest(NumberTest):
    def test_ordinary(self):
        self.is_number(blocks(["##", "##"]), 1)
        self.is_number(blocks(["###", "###"]), 2)
        self.is_number(blocks(["###", "###", "##."]), 3)
        self.is_number(blocks(RING), 0)

    def test_each_of_the_four_is_due(self):
        for grid in (["#.", "##"], [".#", "##"], ["##", ".#"], ["##", "#."]):
            self.is_number(blocks(grid), 0)

    def test_rows_do_not_lead_on(self):
        self.is_number(blocks(["#.#", "#.#"]), 0)

    def test_one_cell_one_row_one_column(self):
        self.is_number(blocks(["#"]), 0)
        self.is_number(blocks(["."]), 0)
        self.is_number(blocks(["####"]), 0)
        self.is_number(blocks(["#"] * 4), 0)

    def test_largest(self):
        self.is_number(blocks(ALL_LAND), 225)
        self.is_number(blocks(ALL_WATER), 0)

    def test_all(self):
        for grid in some_grids():
            self.is_number(blocks(grid), list(windows(grid, 2, 2)).count("####"))


class BalanceTest(NumberTest):
    def test_ordinary(self):
        self.is_number(balance(["##", "#."]), 1)
        self.is_number(balance(["#.", ".#"]), 2)
        self.is_number(balance(RING), 0)
        self.is_number(balance(["#####", "#.#.#", "#####"]), -1)

    def test_one_cell_one_row_one_column(self):
        self.is_number(balance(["#"]), 1)
        self.is_number(balance(["."]), 0)
        self.is_number(balance(["#.##.#"]), 3)
        self.is_number(balance(["#", "#", ".", "#"]), 2)

    def test_largest(self):
        self.is_number(balance(ALL_LAND), 1)
        self.is_number(balance(ALL_WATER), 0)
        self.is_number(balance(CHECKED), 128)
        many_ponds = ["#" * 15] + ["#." * 7 + "#", "#" * 15] * 7
        self.is_number(balance(many_ponds), 1 - 49)

    def test_rings_within_rings(self):
        self.assertEqual((len(pieces(rings())), len(ponds(rings()))), (4, 4))
        self.is_number(balance(rings()), 0)
        self.is_number(balance(["#####", "#...#", "#.#.#", "#...#", "#####"]), 1)

    def test_pieces_less_ponds(self):
        for grid in some_grids():
            self.is_number(balance(grid), len(pieces(grid)) - len(ponds(grid)))
            self.assertEqual(balance(grid), len(land(grid)) - joins(grid) + blocks(grid))

    def test_pieces_less_ponds_after_a_cell_is_flipped(self):
        for grid in (rings(), CHECKED, *mixed_grids(3)):
            for row in range(len(grid)):
                for column in range(row % 3, len(grid[0]), 3):
                    other = flipped(grid, (row, column))
                    self.is_number(balance(other), len(pieces(other)) - len(ponds(other)))


class CornersTest(MoorTest):
    def test_one_cell(self):
        self.assertEqual(corners(["#"]), (4, 0))
        self.assertEqual(corners(["."]), (0, 0))

    def test_at_the_corners_and_at_the_rim_of_the_grid(self):
        for place in range(9):
            signs = "." * place + "#" + "." * (8 - place)
            self.assertEqual(corners([signs[:3], signs[3:6], signs[6:]]), (4, 0))
        self.assertEqual(corners(ALL_LAND), (4, 0))
        self.assertEqual(corners(["##", "#."]), (5, 1))
        self.assertEqual(corners(["##", ".#"]), (5, 1))
        self.assertEqual(corners(["#.", "##"]), (5, 1))
        self.assertEqual(corners([".#", "##"]), (5, 1))

    def test_one_row_and_one_column(self):
        self.assertEqual(corners(["#.##"]), (8, 0))
        self.assertEqual(corners(["#", ".", "#", "#"]), (8, 0))

    def test_inward(self):
        self.assertEqual(corners(RING), (4, 4))
        self.assertEqual(corners(["..#..", ".###.", "#####", ".###.", "..#.."]), (12, 8))
        self.assertEqual(corners([".#.", "###", ".#."]), (8, 4))

    def test_land_that_touches_only_by_corners(self):
        self.assertEqual(corners(["#.", ".#"]), (8, 0))
        self.assertEqual(corners([".#", "#."]), (8, 0))
        self.assertEqual(corners(CHECKED), (512, 0))
        self.assertEqual(corners(["##.", "#.#", "###"]), (7, 3))
        self.assertEqual(corners(["####", "#.##", "##.#", "####"]), (6, 6))

    def test_two_beside_one_another_are_no_corner(self):
        self.assertEqual(corners(["##"]), (4, 0))
        self.assertEqual(corners(["#", "#"]), (4, 0))

    def test_largest(self):
        self.assertEqual(corners(ALL_WATER), (0, 0))
        self.assertEqual(corners(rings()), (16, 16))

    def test_all(self):
        for grid in some_grids():
            spots = list(windows(grid, 2, 2))
            outward = sum(four.count("#") == 1 for four in spots)
            outward += 2 * (spots.count("#..#") + spots.count(".##."))
            inward = sum(four.count("#") == 3 for four in spots)
            told = corners(grid)
            self.assertIs(type(told), tuple)
            self.assertEqual([type(part) for part in told], [int, int])
            self.assertEqual(told, (outward, inward))

    def test_outward_less_inward_are_four_times_the_balance(self):
        for grid in some_grids():
            outward, inward = corners(grid)
            self.assertEqual(outward - inward, 4 * (len(pieces(grid)) - len(ponds(grid))))

    def test_as_many_mirrored_and_turned(self):
        for grid in some_grids():
            told = corners(grid)
            self.assertEqual(corners(mirrored(grid)), told)
            self.assertEqual(corners(quartered(grid)), told)


class StretchesTest(MoorTest):
    def test_ordinary(self):
        self.assertEqual(stretches(["##", "#.", ".#"]), [(0, 0, 1), (1, 0, 0), (1, 2, 2)])
        self.assertEqual(stretches(RING), [(0, 0, 2), (1, 0, 0), (1, 2, 2), (2, 0, 2)])

    def test_column_before_row(self):
        self.assertEqual(stretches([".#", "#."]), [(0, 1, 1), (1, 0, 0)])
        self.assertEqual(stretches(["..#", ".#.", "#.."]), [(0, 2, 2), (1, 1, 1), (2, 0, 0)])

    def test_no_land(self):
        self.assertEqual(stretches(["."]), [])
        self.assertEqual(stretches(ALL_WATER), [])
        self.assertEqual(touches(["."]), [])
        self.assertEqual(touches(ALL_WATER), [])

    def test_one_cell_one_row_one_column(self):
        self.assertEqual(stretches(["#"]), [(0, 0, 0)])
        self.assertEqual(stretches(["#.##"]), [(0, 0, 0), (2, 0, 0), (3, 0, 0)])
        self.assertEqual(stretches(["#", "#", ".", "#"]), [(0, 0, 1), (0, 3, 3)])
        self.assertEqual(stretches([".", "#", "."]), [(0, 1, 1)])

    def test_largest(self):
        self.assertEqual(stretches(ALL_LAND), [(column, 0, 15) for column in range(16)])
        self.assertEqual(len(stretches(CHECKED)), 128)

    def test_all(self):
        for grid in some_grids():
            told = stretches(grid)
            self.assertIs(type(told), list)
            self.assertTrue(all(type(one) is tuple and len(one) == 3 for one in told))
            self.assertEqual(told, sorted(told))
            cells = [(row, column) for column, first, last in told for row in range(first, last + 1)]
            self.assertEqual(sorted(cells), land(grid))
            for column, first, last in told:
                self.assertFalse(is_land_of(grid, (first - 1, column)))
                self.assertFalse(is_land_of(grid, (last + 1, column)))


class TouchesTest(MoorTest):
    def test_ordinary(self):
        self.assertEqual(touches(["##", "#.", ".#"]), [(0, 1)])
        self.assertEqual(touches(RING), [(0, 1), (0, 2), (1, 3), (2, 3)])
        self.assertEqual(touches(["#.#", "###"]), [(0, 1), (1, 2)])

    def test_corners_do_not_touch(self):
        self.assertEqual(touches(["#.", ".#"]), [])
        self.assertEqual(touches([".#", "#."]), [])
        self.assertEqual(touches(["#.", "#.", ".#", ".#"]), [])

    def test_one_row_in_common_is_enough(self):
        self.assertEqual(touches(["#.", "##", ".#"]), [(0, 1)])
        self.assertEqual(touches([".#", "##", "#."]), [(0, 1)])
        self.assertEqual(touches(["#.", "##", "#."]), [(0, 1)])
        self.assertEqual(touches([".#", "##", ".#"]), [(0, 1)])

    def test_only_neighbouring_columns(self):
        self.assertEqual(touches(["#.#"]), [])
        self.assertEqual(touches(["###"]), [(0, 1), (1, 2)])

    def test_one_column(self):
        self.assertEqual(touches(["#"]), [])
        self.assertEqual(touches(["#", ".", "#"]), [])

    def test_largest(self):
        self.assertEqual(touches(ALL_LAND), [(at, at + 1) for at in range(15)])
        self.assertEqual(touches(CHECKED), [])

    def test_all(self):
        for grid in some_grids():
            counts = {
                (row, column): at for at, (column, first, last) in enumerate(stretches(grid))
                for row in range(first, last + 1)
            }
            expected = sorted({
                (count, counts[(row, column + 1)]) for (row, column), count in counts.items()
                if (row, column + 1) in counts
            })
            told = touches(grid)
            self.assertIs(type(told), list)
            self.assertTrue(all(type(one) is tuple for one in told))
            self.assertEqual(told, expected)
            self.assertTrue(all(lesser < greater for lesser, greater in told))

    def test_stretches_less_touches_are_the_balance(self):
        for grid in some_grids():
            expected = len(pieces(grid)) - len(ponds(grid))
            self.assertEqual(len(stretches(grid)) - len(touches(grid)), expected)


class SeamTest(MoorTest):
    def test_no_land_across(self):
        self.assertEqual(seam(["."], ["."]), (0, 0, 0))
        self.assertEqual(seam(["#"], ["."]), (0, 0, 0))
        self.assertEqual(seam(["."], ["#"]), (0, 0, 0))
        self.assertEqual(seam(["#", "."], [".", "#"]), (0, 0, 0))
        self.assertEqual(seam(["#."], ["#"]), (0, 0, 0))
        self.assertEqual(seam(["#"], [".#"]), (0, 0, 0))

    def test_pieces_fewer(self):
        self.assertEqual(seam(["#"], ["#"]), (1, 1, 0))
        self.assertEqual(seam(["#", ".", "#"], ["#", "#", "#"]), (2, 2, 0))
        self.assertEqual(seam(["#", "#", "#"], ["#", ".", "#"]), (2, 2, 0))
        self.assertEqual(seam(["#", ".", "#"], ["#", ".", "#"]), (2, 2, 0))

    def test_a_seam_that_closes_a_pond(self):
        self.assertEqual(seam(["##", "#.", "##"], ["#", "#", "#"]), (2, 1, 1))
        self.assertEqual(seam(["##", "#.", "##"], ["##", ".#", "##"]), (2, 1, 1))
        comb = ["##", "#.", "##", "#.", "##"]
        self.assertEqual(seam(comb, mirrored(comb)), (3, 1, 2))

    def test_ponds_there_ahead_are_not_counted(self):
        self.assertEqual(seam(RING, RING), (1, 1, 0))
        self.assertEqual(seam(RING, ["...", "...", "..."]), (0, 0, 0))

    def test_stretches_are_as_long_as_can_be(self):
        self.assertEqual(seam(["#"] * 16, ["#"] * 16), (1, 1, 0))
        self.assertEqual(seam(["##"] * 3 + ["#."] + ["##"] * 2, ["#"] * 6), (2, 1, 1))
        self.assertEqual(seam(["#", "."] * 8, ["#", "."] * 8), (8, 8, 0))

    def test_unlike_widths(self):
        self.assertEqual(seam(["#" * 15], ["#"]), (1, 1, 0))
        self.assertEqual(seam(["#"], ["#" * 15]), (1, 1, 0))
        one = ["####", "#...", "####", "#...", "####"]
        self.assertEqual(seam(one, ["#"] * 5), (3, 1, 2))
        self.assertEqual(seam(one, [".", "#", "#", "#", "#"]), (2, 1, 1))
        apart = ["####", "#...", "#.##", "#...", "####"]
        self.assertEqual(seam(apart, ["#"] * 5), (3, 2, 1))
        self.assertEqual(seam(apart, [".", "#", "#", "#", "#"]), (2, 2, 0))

    def test_the_first_on_the_left(self):
        self.assertEqual(seam(["#."], [".#"]), (0, 0, 0))
        self.assertEqual(seam([".#"], ["#."]), (1, 1, 0))

    def check_seam(self, one, other):
        across = [left[-1] + right[0] == "##" for left, right in zip(one, other)]
        begins = sum(here and not above for here, above in zip(across, [False] + across))
        both = beside(one, other)
        fewer = len(pieces(one)) + len(pieces(other)) - len(pieces(both))
        more = len(ponds(both)) - len(ponds(one)) - len(ponds(other))
        told = seam(one, other)
        self.assertIs(type(told), tuple)
        self.assertEqual([type(part) for part in told], [int, int, int])
        self.assertEqual(told, (begins, fewer, more))
        self.assertEqual(told[0], told[1] + told[2])

    def test_all_of_three_rows_and_two_columns(self):
        for one in grids_of(3, 2):
            for other in grids_of(3, 2):
                self.check_seam(one, other)

    def test_mixed_grids_cut_in_two(self):
        for at, grid in enumerate(mixed_grids(60)):
            if len(grid[0]) > 1:
                place = 1 + at % (len(grid[0]) - 1)
                self.check_seam([row[:place] for row in grid], [row[place:] for row in grid])
                self.check_seam([row[place:] for row in grid], [row[:place] for row in grid])

    def test_with_itself(self):
        grid = ["###", "..."]
        self.assertEqual(seam(grid, grid), (1, 1, 0))
        self.assertEqual(grid, ["###", "..."])

    def test_unlike_many_rows_or_too_wide(self):
        self.refused(BadSeam, seam, ["#"], ["#", "#"])
        self.refused(BadSeam, seam, ["#", "#"], ["#"])
        self.refused(BadSeam, seam, ["#" * 8], ["#" * 9])
        self.refused(BadSeam, seam, ["#" * 16], ["#"])
        self.refused(BadSeam, seam, ALL_LAND, ALL_LAND)

    def test_either_is_no_grid(self):
        for name, wrong in wrong_grids().items():
            with self.subTest(name):
                self.refused(BadGrid, seam, wrong, ["#"])
                self.refused(BadGrid, seam, ["#"], wrong)
                self.refused(BadGrid, seam, ["#" * 16] * 5, wrong)
                self.refused(BadGrid, seam, wrong, ["#" * 16] * 5)
                self.refused(BadGrid, seam, wrong, wrong)


class AllGridsTest(MoorTest):
    ASKED = (joins, blocks, balance, corners, stretches, touches)

    def test_wrong_grids(self):
        for name, wrong in wrong_grids().items():
            with self.subTest(name):
                for function in self.ASKED:
                    self.refused(BadGrid, function, wrong)

    def test_nothing_is_changed_or_kept(self):
        for grid in list(mixed_grids(12)) + [["#"], ["."], ALL_LAND]:
            for function in self.ASKED:
                self.tells_new(function, list(grid))
            self.tells_new(seam, [row[:8] for row in grid], [row[-8:] for row in grid])

    def test_a_grid_changed_in_between_is_told_anew(self):
        grid = ["##", "##"]
        self.assertEqual([function(grid) for function in self.ASKED],
                         [4, 1, 1, (4, 0), [(0, 0, 1), (1, 0, 1)], [(0, 1)]])
        grid[0] = "#."
        self.assertEqual([function(grid) for function in self.ASKED],
                         [2, 0, 1, (5, 1), [(0, 0, 1), (1, 1, 1)], [(0, 1)]])

    def test_a_refusal_changes_nothing(self):
        grid = ["#.", "#", "x"]
        for function in self.ASKED:
            self.refused(BadGrid, function, grid)
        self.refused(BadGrid, seam, ["#"], grid)
        self.assertEqual(grid, ["#.", "#", "x"])


if __name__ == "__main__":
    unittest.main()
