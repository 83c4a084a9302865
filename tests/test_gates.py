"""With all gates shut each piece holds together and goes around no pond."""

import unittest

from shapes import grids_with_ponds, land_cells, small_grids, way_of

from moorwalk.counting import blocks, joins
from moorwalk.gates import gates, walks_within
from moorwalk.pieces import pieces, ponds


class GatesTest(unittest.TestCase):
    def grids(self):
        yield from small_grids()
        yield from grids_with_ponds(150)

    def test_each_pond_has_a_gate(self):
        for grid in self.grids():
            numbers = sorted({number for told in gates(grid).values() for number in told})
            self.assertEqual(numbers, list(range(1, len(ponds(grid)) + 1)))

    def test_each_piece_holds_together(self):
        for grid in self.grids():
            shut = gates(grid)
            for piece in pieces(grid):
                walks = walks_within(grid, shut, piece[-1])
                self.assertEqual(sorted(walks), piece)
                for cell, walk in walks.items():
                    way = way_of(grid, piece[-1], walk)
                    self.assertEqual(way[-1], cell)
                    for here, there in zip(way, way[1:]):
                        self.assertNotIn(min(here, there) if here[0] == there[0] else None, shut)

    def test_cells_less_joins_and_blocks_more_are_the_pieces(self):
        for grid in self.grids():
            shut = gates(grid)
            cut = [(row, column) for row, column in shut if (row + 1, column) in shut]
            left = joins(grid) - len(shut), blocks(grid) - len(cut)
            self.assertEqual(len(land_cells(grid)) - left[0] + left[1], len(pieces(grid)))


if __name__ == "__main__":
    unittest.main()
