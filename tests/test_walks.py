"""Promises 13, 14 and 15: walks, walks back, and the moves that change them."""

import unittest

from oracles import after
from refusals import MoorTest
from shapes import (
    LETTERS, OPPOSITE, mixed_walks, way_of, wrong_begins, wrong_grids, wrong_letters, wrong_moves,
)

from moorwalk import errors
from moorwalk.errors import BadGrid, BadMove, BadWalk
from moorwalk.walks import back, cells_of, moved, moves_of

BLOCK = ["##", "##"]
RING = ["###", "#.#", "###"]
BENT = ["##.", "###"]
ALL_LAND = ["#" * 16] * 16


def moves_at(place):
    return [("turn", place, ""), ("drop", place, "")] + [("add", place, one) for one in LETTERS]


class CellsOfTest(MoorTest):
    def test_the_empty_walk(self):
        self.assertEqual(cells_of(["#"], (0, 0), ""), [(0, 0)])
        self.assertEqual(cells_of(RING, (2, 1), ""), [(2, 1)])

    def test_in_their_turn_from_the_begin_on(self):
        self.assertEqual(cells_of(["##", ".#"], (0, 0), "ES"), [(0, 0), (0, 1), (1, 1)])
        self.assertEqual(cells_of(["##", ".#"], (1, 1), "NW"), [(1, 1), (0, 1), (0, 0)])

    def test_each_letter(self):
        plus = [".#.", "###", ".#."]
        self.assertEqual(cells_of(plus, (1, 1), "N"), [(1, 1), (0, 1)])
        self.assertEqual(cells_of(plus, (1, 1), "E"), [(1, 1), (1, 2)])
        self.assertEqual(cells_of(plus, (1, 1), "S"), [(1, 1), (2, 1)])
        self.assertEqual(cells_of(plus, (1, 1), "W"), [(1, 1), (1, 0)])

    def test_cells_that_are_come_to_again(self):
        self.assertEqual(cells_of(["##"], (0, 1), "WEW"), [(0, 1), (0, 0), (0, 1), (0, 0)])
        told = cells_of(RING, (0, 0), "EESSWWNN")
        self.assertEqual((len(told), told[0], told[-1]), (9, (0, 0), (0, 0)))

    def test_one_row_and_one_column(self):
        self.assertEqual(cells_of(["." + "#" * 15], (0, 1), "E" * 14)[-1], (0, 15))
        self.assertEqual(cells_of(["#"] * 16, (15, 0), "N" * 15)[-1], (0, 0))

    def test_longest(self):
        told = cells_of(["##"], (0, 0), "EW" * 100)
        self.assertEqual(told, [(0, 0), (0, 1)] * 100 + [(0, 0)])
        self.refused(BadWalk, cells_of, ["##"], (0, 0), "EW" * 100 + "E")

    def test_off_the_land(self):
        self.refused(BadWalk, cells_of, RING, (0, 1), "S")
        self.refused(BadWalk, cells_of, RING, (0, 0), "EESSWNW")
        self.refused(BadWalk, cells_of, ["#.#"], (0, 0), "EE")
        self.refused(BadWalk, cells_of, ["##."], (0, 0), "EE")
        # It comes back to the land, but one of its steps left it.
        self.refused(BadWalk, cells_of, ["##."], (0, 1), "EW")

    def test_out_of_the_grid(self):
        for letter in LETTERS:
            self.refused(BadWalk, cells_of, ["#"], (0, 0), letter)
            self.refused(BadWalk, cells_of, ["#"], (0, 0), letter + OPPOSITE[letter])
        self.refused(BadWalk, cells_of, BLOCK, (0, 0), "NS")
        self.refused(BadWalk, cells_of, BLOCK, (0, 0), "WE")
        self.refused(BadWalk, cells_of, BLOCK, (1, 1), "SN")
        self.refused(BadWalk, cells_of, BLOCK, (1, 1), "EW")
        # The last row is not above the first one, nor the last column left of it.
        self.refused(BadWalk, cells_of, ["#" * 16] * 16, (0, 0), "N" * 16)
        self.refused(BadWalk, cells_of, ["#" * 16] * 16, (0, 0), "W")

    def test_mixed_walks(self):
        for grid, begin, walk in mixed_walks(60):
            told = cells_of(grid, begin, walk)
            self.assertIs(type(told), list)
            self.assertTrue(all(type(cell) is tuple for cell in told))
            self.assertEqual(told, way_of(grid, begin, walk))
            self.assertEqual(cells_of(grid, told[-1], back(walk)), told[::-1])

    def test_steps_off_mixed_walks(self):
        for grid, begin, walk in mixed_walks(60, 60):
            for letter in LETTERS:
                for place in range(0, len(walk) + 1, 9):
                    other = walk[:place] + letter + walk[place + 1:]
                    expected = way_of(grid, begin, other)
                    if expected is None:
                        self.refused(BadWalk, cells_of, grid, begin, other)
                    else:
                        self.assertEqual(cells_of(grid, begin, other), expected)


class BackTest(MoorTest):
    def test_ordinary(self):
        self.assertEqual(back(""), "")
        self.assertEqual([back(one) for one in "NESW"], ["S", "W", "N", "E"])
        self.assertEqual(back("NE"), "WS")
        self.assertEqual(back("NNES"), "NWSS")

    def test_twice_is_the_walk(self):
        for _, _, walk in mixed_walks(40):
            self.assertEqual(back(back(walk)), walk)
            self.assertEqual(len(back(walk)), len(walk))

    def test_longest(self):
        self.assertEqual(back("NE" * 100), "WS" * 100)
        self.refused(BadWalk, back, "NE" * 100 + "N")
        self.refused(BadWalk, back, "N" * 100000)

    def test_a_walk_on_no_grid(self):
        self.assertEqual(back("N" * 200), "S" * 200)

    def test_wrong_walks(self):
        for name, walk in wrong_letters().items():
            with self.subTest(name):
                self.refused(BadWalk, back, walk)


class TurnTest(MoorTest):
    def test_first_and_last_place(self):
        self.assertEqual(moved(BLOCK, (0, 0), "ES", ("turn", 0, "")), "SE")
        self.assertEqual(moved(BLOCK, (1, 1), "WN", ("turn", 0, "")), "NW")
        self.assertEqual(moved(ALL_LAND, (4, 4), "ESWW", ("turn", 0, "")), "SEWW")
        self.assertEqual(moved(ALL_LAND, (4, 4), "EESW", ("turn", 2, "")), "EEWS")

    def test_all_eight(self):
        for one in "NS":
            for other in "EW":
                self.assertEqual(moved(ALL_LAND, (4, 4), one + other, ("turn", 0, "")), other + one)
                self.assertEqual(moved(ALL_LAND, (4, 4), other + one, ("turn", 0, "")), one + other)

    def test_behind_the_last_place(self):
        for place in (1, 2, 3, 200, -1, -2, 10 ** 40, -10 ** 40):
            self.refused(BadMove, moved, BLOCK, (0, 0), "ES", ("turn", place, ""))
        self.refused(BadMove, moved, BLOCK, (0, 0), "", ("turn", 0, ""))
        self.refused(BadMove, moved, BLOCK, (0, 0), "E", ("turn", 0, ""))

    def test_places_below_0_are_not_counted_from_the_end(self):
        self.refused(BadMove, moved, ALL_LAND, (4, 4), "ESES", ("turn", -2, ""))
        self.refused(BadMove, moved, ALL_LAND, (4, 4), "ESES", ("turn", -4, ""))
        self.refused(BadMove, moved, ALL_LAND, (4, 4), "SS", ("turn", -1, ""))

    def test_no_turn(self):
        for walk in ("EE", "SS", "EW", "WE", "NS", "SN"):
            self.refused(BadMove, moved, ALL_LAND, (4, 4), walk, ("turn", 0, ""))

    def test_off_the_land(self):
        self.refused(BadMove, moved, ["##", ".#"], (0, 0), "ES", ("turn", 0, ""))
        self.refused(BadMove, moved, RING, (0, 0), "EES", ("turn", 1, ""))

    def test_out_of_the_grid(self):
        self.assertEqual(cells_of(["##", ".#"], (1, 1), "NW"), [(1, 1), (0, 1), (0, 0)])
        self.refused(BadMove, moved, ["##", ".#"], (1, 1), "NW", ("turn", 0, ""))

    def test_longest(self):
        walk = "EW" * 99 + "ES"
        self.assertEqual(moved(BLOCK, (0, 0), walk, ("turn", 198, "")), "EW" * 99 + "SE")
        self.refused(BadMove, moved, BLOCK, (0, 0), walk, ("turn", 199, ""))


class DropTest(MoorTest):
    def test_first_and_last_place(self):
        self.assertEqual(moved(["##"], (0, 0), "EW", ("drop", 0, "")), "")
        self.assertEqual(moved(["##"], (0, 0), "EWE", ("drop", 0, "")), "E")
        self.assertEqual(moved(["##"], (0, 0), "EWE", ("drop", 1, "")), "E")
        self.assertEqual(moved(BLOCK, (0, 0), "EWSE", ("drop", 0, "")), "SE")
        self.assertEqual(moved(BLOCK, (0, 0), "SEWE", ("drop", 2, "")), "SE")

    def test_all_four(self):
        for one in LETTERS:
            walk = "E" + one + OPPOSITE[one] + "S"
            self.assertEqual(moved(ALL_LAND, (4, 4), walk, ("drop", 1, "")), "ES")

    def test_behind_the_last_place(self):
        for place in (1, 2, 3, 200, -1, -2, 10 ** 40, -10 ** 40):
            self.refused(BadMove, moved, ["##"], (0, 0), "EW", ("drop", place, ""))
        self.refused(BadMove, moved, ["##"], (0, 0), "", ("drop", 0, ""))
        self.refused(BadMove, moved, ["##"], (0, 0), "E", ("drop", 0, ""))

    def test_places_below_0_are_not_counted_from_the_end(self):
        self.refused(BadMove, moved, ["##"], (0, 0), "EWEW", ("drop", -2, ""))
        self.refused(BadMove, moved, ["##"], (0, 0), "EWEW", ("drop", -4, ""))

    def test_no_drop(self):
        for walk in ("EE", "SS", "ES", "SE", "NW", "WN"):
            self.refused(BadMove, moved, ALL_LAND, (4, 4), walk, ("drop", 0, ""))

    def test_longest(self):
        self.assertEqual(moved(["##"], (0, 0), "EW" * 100, ("drop", 198, "")), "EW" * 99)


class AddTest(MoorTest):
    def test_first_last_and_behind_all(self):
        self.assertEqual(moved(["##"], (0, 0), "", ("add", 0, "E")), "EW")
        self.assertEqual(moved(BLOCK, (0, 0), "E", ("add", 0, "S")), "SNE")
        self.assertEqual(moved(BLOCK, (0, 0), "E", ("add", 1, "S")), "ESN")
        self.assertEqual(moved(BLOCK, (0, 0), "ES", ("add", 1, "W")), "EWES")
        self.assertEqual(moved(BLOCK, (0, 0), "ES", ("add", 2, "W")), "ESWE")

    def test_all_four(self):
        for one in LETTERS:
            expected = "E" + one + OPPOSITE[one] + "S"
            self.assertEqual(moved(ALL_LAND, (4, 4), "ES", ("add", 1, one)), expected)

    def test_places_out_of_range(self):
        for place in (2, 3, 200, -1, -2, 10 ** 40, -10 ** 40):
            self.refused(BadMove, moved, ["##"], (0, 0), "E", ("add", place, "W"))
            self.refused(BadMove, moved, ["##"], (0, 0), "E", ("add", place, "E"))

    def test_off_the_land(self):
        self.refused(BadMove, moved, RING, (0, 1), "", ("add", 0, "S"))
        self.refused(BadMove, moved, RING, (0, 0), "EE", ("add", 1, "S"))
        self.refused(BadMove, moved, ["#"], (0, 0), "", ("add", 0, "N"))
        self.refused(BadMove, moved, BLOCK, (0, 0), "E", ("add", 1, "E"))
        self.refused(BadMove, moved, BLOCK, (0, 0), "", ("add", 0, "W"))

    def test_a_walk_that_grows_too_long(self):
        self.assertEqual(moved(["##"], (0, 0), "EW" * 99, ("add", 198, "E")), "EW" * 100)
        self.refused(BadMove, moved, ["##"], (0, 0), "EW" * 99 + "E", ("add", 0, "E"))
        self.refused(BadMove, moved, ["##"], (0, 0), "EW" * 100, ("add", 0, "E"))
        self.refused(BadMove, moved, ["##"], (0, 0), "EW" * 100, ("add", 200, "E"))


class MovedTest(MoorTest):
    def test_what_is_no_move(self):
        # Each word could be done at place 0, or a place beside, but for what is wrong.
        for name, move in wrong_moves().items():
            with self.subTest(name):
                for walk in ("EWSNEWSNEW", "ESWNESWNES"):
                    self.refused(BadMove, moved, BLOCK, (0, 0), walk, move)
                self.refused(BadMove, moved, BLOCK, (0, 0), "", move)
                self.refused(BadMove, moved, ["#"], (0, 0), "", move)

    def test_those_told_rightly_can_be_done(self):
        self.assertEqual(moved(BLOCK, (0, 0), "EWSNEWSNEW", ("drop", 0, "")), "SNEWSNEW")
        self.assertEqual(moved(BLOCK, (0, 0), "ESWNESWNES", ("turn", 0, "")), "SEWNESWNES")
        self.assertEqual(moved(BLOCK, (0, 0), "ESWNESWNES", ("add", 0, "E")), "EWESWNESWNES")

    def test_refused_alone_behind_all_that_comes_ahead(self):
        for name, move in wrong_moves().items():
            with self.subTest(name):
                self.refused(BadGrid, moved, ["##", "#"], (9, 9), "x", move)
                self.refused(errors.BadCell, moved, BLOCK, (2, 0), "x", move)
                self.refused(errors.NoLand, moved, ["#."], (0, 1), "x", move)
                self.refused(BadWalk, moved, BLOCK, (0, 0), "x", move)
                self.refused(BadWalk, moved, BLOCK, (0, 0), "W", move)
                self.refused(BadWalk, moved, BLOCK, (0, 0), "EW" * 101, move)

    def test_all_moves_of_mixed_walks(self):
        done = {"turn": 0, "drop": 0, "add": 0}
        for grid, begin, walk in mixed_walks(45, 30):
            for place in range(-2, len(walk) + 3):
                for move in moves_at(place):
                    expected = after(walk, move)
                    if expected is None or way_of(grid, begin, expected) is None:
                        self.refused(BadMove, moved, grid, begin, walk, move)
                    else:
                        told = moved(grid, begin, walk, move)
                        self.assertIs(type(told), str)
                        self.assertEqual(told, expected)
                        done[move[0]] += 1
        self.assertTrue(all(many > 40 for many in done.values()), done)

    def test_a_move_leaves_the_begin_and_the_last_cell(self):
        for grid, begin, walk in mixed_walks(45, 30):
            ahead = cells_of(grid, begin, walk)
            for move in moves_of(grid, begin, walk):
                told = cells_of(grid, begin, moved(grid, begin, walk, move))
                self.assertEqual((told[0], told[-1]), (ahead[0], ahead[-1]))
            for place in range(len(walk) + 1):
                for letter in LETTERS:
                    if way_of(grid, ahead[place], letter):
                        told = cells_of(grid, begin, moved(grid, begin, walk, ("add", place, letter)))
                        self.assertEqual((told[0], told[-1]), (ahead[0], ahead[-1]))

    def test_each_move_has_one_that_leads_back(self):
        for grid, begin, walk in mixed_walks(45, 198):
            ahead = cells_of(grid, begin, walk)
            for word, place, _ in moves_of(grid, begin, walk):
                there = moved(grid, begin, walk, (word, place, ""))
                again = ("turn", place, "") if word == "turn" else ("add", place, walk[place])
                self.assertEqual(moved(grid, begin, there, again), walk)
            for place in range(0, len(walk) + 1, 5):
                for letter in LETTERS:
                    if way_of(grid, ahead[place], letter):
                        there = moved(grid, begin, walk, ("add", place, letter))
                        self.assertEqual(moved(grid, begin, there, ("drop", place, "")), walk)


class MovesOfTest(MoorTest):
    def test_none(self):
        self.assertEqual(moves_of(["#"], (0, 0), ""), [])
        self.assertEqual(moves_of(BLOCK, (0, 0), ""), [])
        self.assertEqual(moves_of(BLOCK, (0, 0), "E"), [])
        self.assertEqual(moves_of(ALL_LAND, (0, 0), "EEE"), [])
        self.assertEqual(moves_of(["##", ".#"], (0, 0), "ES"), [])

    def test_by_rising_places(self):
        self.assertEqual(
            moves_of(BLOCK, (0, 0), "ESNW"),
            [("turn", 0, ""), ("drop", 1, ""), ("turn", 2, "")],
        )
        self.assertEqual(
            moves_of(["##"], (0, 0), "EWE"), [("drop", 0, ""), ("drop", 1, "")],
        )
        self.assertEqual(moves_of(RING, (0, 0), "EESSWWNN"), [])
        self.assertEqual(
            moves_of(["###", "###"], (0, 0), "EESWW"), [("turn", 1, ""), ("turn", 2, "")],
        )

    def test_longest(self):
        told = moves_of(["##"], (0, 0), "EW" * 100)
        self.assertEqual(told, [("drop", place, "") for place in range(199)])

    def test_all_that_can_be_done(self):
        for grid, begin, walk in mixed_walks(60):
            expected = []
            for place in range(len(walk)):
                for move in moves_at(place)[:2]:
                    other = after(walk, move)
                    if other is not None and way_of(grid, begin, other):
                        expected.append(move)
            told = moves_of(grid, begin, walk)
            self.assertIs(type(told), list)
            self.assertTrue(all(type(move) is tuple for move in told))
            self.assertEqual(told, expected)


class AllWalksTest(MoorTest):
    def asked(self):
        yield cells_of, ()
        yield moves_of, ()
        yield moved, (("drop", 0, ""),)
        yield moved, (("add", 0, "E"),)
        yield moved, ("no move",)

    def test_wrong_grids(self):
        for name, wrong in wrong_grids().items():
            with self.subTest(name):
                for function, more in self.asked():
                    self.refused(BadGrid, function, wrong, (0, 0), "EW", *more)
                    self.refused(BadGrid, function, wrong, None, None, *more)

    def test_wrong_begins(self):
        for name, (begin, kind) in wrong_begins().items():
            with self.subTest(name):
                for function, more in self.asked():
                    for walk in ("EW", "", "x", None):
                        self.refused(getattr(errors, kind), function, BENT, begin, walk, *more)

    def test_wrong_walks(self):
        for name, walk in wrong_letters().items():
            with self.subTest(name):
                for function, more in self.asked():
                    self.refused(BadWalk, function, BENT, (0, 0), walk, *more)

    def test_walks_off_the_land(self):
        for walk in ("N", "W", "EE", "NS", "EEW", "SESN", "EWEWW"):
            for function, more in self.asked():
                self.refused(BadWalk, function, BENT, (0, 0), walk, *more)

    def test_nothing_is_changed_or_kept(self):
        for grid, begin, walk in mixed_walks(15, 60):
            self.tells_new(cells_of, list(grid), begin, walk)
            self.tells_new(moves_of, list(grid), begin, walk)
            self.tells_new(back, walk)
            for move in moves_of(grid, begin, walk)[:2]:
                self.tells_new(moved, list(grid), begin, walk, move)

    def test_a_grid_changed_in_between_is_told_anew(self):
        grid = ["##", "##"]
        told = moves_of(grid, (0, 0), "ES")
        self.assertEqual(told, [("turn", 0, "")])
        self.assertEqual(moved(grid, (0, 0), "ES", ("turn", 0, "")), "SE")
        grid[1] = ".#"
        self.assertEqual(told, [("turn", 0, "")])
        self.assertEqual(moves_of(grid, (0, 0), "ES"), [])
        self.refused(BadMove, moved, grid, (0, 0), "ES", ("turn", 0, ""))
        grid[0] = "#."
        self.refused(BadWalk, cells_of, grid, (0, 0), "ES")

    def test_a_refusal_changes_nothing(self):
        grid, move = ["#.", "##"], ["turn", 0, ""]
        self.refused(BadWalk, cells_of, grid, (0, 0), "E")
        self.refused(BadMove, moved, grid, (0, 0), "SE", move)
        self.refused(BadMove, moved, grid, (0, 0), "SE", ("turn", 0, ""))
        self.assertEqual((grid, move), (["#.", "##"], ["turn", 0, ""]))


if __name__ == "__main__":
    unittest.main()
