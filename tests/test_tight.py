"""Promises 15, 19 to 22: tight walks, what leads from walk to walk, and rounds."""

import unittest

from oracles import (
    after_all, alike_classes, can_turn, least_steps, led_sheet, pond_firsts, round_form_by_hand,
    taken_out, turned_back, word_by_hand,
)
from refusals import MoorTest
from shapes import (
    POND_GRIDS, drawn_round, drawn_walk, grids_with_ponds, land_cells, many_ponds, mixed_numbers,
    mixed_walks, rings, way_of, way_to, wrong_begins, wrong_cells, wrong_grids, wrong_letters,
)

from moorwalk import errors
from moorwalk.answers import Led, Other, Parted, Same
from moorwalk.errors import Apart, BadCell, BadGrid, BadWalk, Ends, NoLand, NotRound
from moorwalk.tight import alike, led, rounds_alike, tight, tightening

BLOCK = ["##", "##"]
RING = ["###", "#.#", "###"]
AROUND = "EESSWWNN"
IN_A_ROW = ["#####", "#.#.#", "#####"]
ALL_LAND = ["#" * 16] * 16
BENT = ["##.", "###"]
# The walks of these grids up to so many steps are all looked at.
SMALL = [
    (RING, 9), (BLOCK, 8), (["###", "###"], 7), (["####", "#.##", "####"], 7), (IN_A_ROW, 8),
    (["###", "#.#", "###", "#.#", "###"], 8), (["##.", "###", ".##"], 7), (["####"], 8),
]


def turns_and_drops(moves):
    return type(moves) is list and all(
        type(move) is tuple and move[0] in ("turn", "drop") and move[2] == "" for move in moves
    )


def walks_with_ponds(many, longest):
    """Grids, begins and walks, many of which go around ponds."""
    numbers = mixed_numbers(83)
    for grid in grids_with_ponds(many):
        for begin in land_cells(grid)[::17]:
            yield grid, begin, drawn_walk(numbers, grid, begin, next(numbers) % (longest + 1))


class TightTest(MoorTest):
    def test_those_that_are_tight(self):
        for grid, begin, walk in (
            (["#"], (0, 0), ""), (BLOCK, (0, 0), "SE"), (RING, (0, 0), AROUND * 25),
            (RING, (0, 0), "EES"), (ALL_LAND, (0, 0), "S" * 15 + "E" * 15), (["##", ".#"], (0, 0), "ES"),
        ):
            self.assertEqual(tight(grid, begin, walk), walk)
            self.assertEqual(tightening(grid, begin, walk), [])

    def test_a_drop_and_a_turn(self):
        self.assertEqual(tight(["##"], (0, 0), "EW"), "")
        self.assertEqual(tightening(["##"], (0, 0), "EW"), [("drop", 0, "")])
        self.assertEqual(tight(BLOCK, (0, 0), "ES"), "SE")
        self.assertEqual(tightening(BLOCK, (0, 0), "ES"), [("turn", 0, "")])
        self.assertEqual(tight(BLOCK, (1, 1), "WN"), "NW")
        self.assertEqual(tight(BLOCK, (0, 1), "WS"), "SW")
        self.assertEqual(tight(BLOCK, (1, 0), "EN"), "NE")

    def test_what_stands_apart_and_is_dropped(self):
        self.assertEqual(tight(BLOCK, (0, 0), "ESW"), "S")
        self.assertEqual(tight(BLOCK, (0, 0), "SEN"), "E")
        self.assertEqual(tight(ALL_LAND, (0, 0), "EEESSSWWW"), "SSS")
        self.assertEqual(tight(ALL_LAND, (0, 0), "SSSEEENNN"), "EEE")
        self.assertEqual(tight(ALL_LAND, (0, 0), "ESWN" * 50), "")
        self.assertEqual(tight(["####", "####", "#..#"], (2, 0), "NNEEESS"), "NEEES")

    def test_a_pond_holds_it(self):
        self.assertEqual(tight(RING, (0, 0), "EESSWW"), "EESSWW")
        self.assertEqual(tight(["####", "#.##", "####"], (0, 0), "EEESSWWW"), "EESSWW")
        self.assertEqual(tight(["####", "#..#", "####"], (0, 0), "EEESSWWWNN"), "EEESSWWWNN")

    def test_longest(self):
        self.assertEqual(tight(["##"], (0, 0), "EW" * 100), "")
        self.assertEqual(tight(["##"], (0, 0), "EW" * 99 + "E"), "E")
        walk = ("ES" * 15 + "WN" * 15) * 3 + "E" * 15 + "W" * 5
        self.assertEqual(len(walk), 200)
        self.assertEqual(tight(ALL_LAND, (0, 0), walk), "E" * 10)
        self.assertEqual(tight(RING, (1, 0), "NEESSWWN" * 25), "NEESSWWN" * 25)
        zigzag = "ES" * 15
        self.assertEqual(tight(ALL_LAND, (0, 0), zigzag), "S" * 15 + "E" * 15)
        self.assertEqual(len(tightening(ALL_LAND, (0, 0), zigzag)), 15 * 16 // 2)

    def test_all_small_walks(self):
        for grid, longest in SMALL:
            for begin in land_cells(grid)[::3]:
                for group in alike_classes(grid, begin, longest):
                    least = min(len(walk) for walk in group)
                    expected = [
                        walk for walk in group
                        if len(walk) == least and not can_turn(grid, begin, walk)
                    ]
                    self.assertEqual(len(expected), 1)
                    self.assertEqual({tight(grid, begin, walk) for walk in group}, set(expected))

    def test_no_alike_one_is_shorter(self):
        shorter = 0
        for grid, begin, walk in walks_with_ponds(60, 30):
            told = tight(grid, begin, walk)
            self.assertIs(type(told), str)
            self.assertEqual(len(told), least_steps(grid, begin, walk))
            self.assertFalse(can_turn(grid, begin, told))
            self.assertEqual(way_of(grid, begin, told)[-1], way_of(grid, begin, walk)[-1])
            self.assertEqual(word_by_hand(grid, begin, told), word_by_hand(grid, begin, walk))
            shorter += len(told) < len(walk)
        self.assertGreater(shorter, 50)

    def test_the_moves_lead_to_it(self):
        for grid, begin, walk in [*mixed_walks(30), *walks_with_ponds(20, 200)]:
            moves = tightening(grid, begin, walk)
            self.assertTrue(turns_and_drops(moves))
            told = after_all(grid, begin, walk, moves)
            self.assertEqual(told[-1], tight(grid, begin, walk))
            self.assertEqual(tight(grid, begin, told[-1]), told[-1])
            self.assertEqual(tightening(grid, begin, told[-1]), [])


def alike_pairs(many):
    """Pairs of alike walks, one by moves from the other, a longer and a shorter one."""
    numbers = mixed_numbers(89)
    for grid, begin, walk in walks_with_ponds(many, 80):
        other = walk
        for _ in range(next(numbers) % 12):
            place = next(numbers) % (len(other) + 1)
            loop = drawn_walk(numbers, grid, way_of(grid, begin, other)[place], next(numbers) % 6)
            other = other[:place] + loop + turned_back(loop) + other[place:]
        yield grid, begin, walk, other


class LedTest(MoorTest):
    def check(self, grid, begin, one, other):
        moves = led(grid, begin, one, other)
        self.assertIs(type(moves), list)
        walks = after_all(grid, begin, one, moves)
        self.assertIsNotNone(walks)
        self.assertEqual(walks[-1], other)
        self.assertLessEqual(max(len(walk) for walk in walks), max(len(one), len(other)))
        for move in moves:
            self.assertIs(type(move), tuple)

    def test_from_a_walk_to_itself(self):
        for walk in ("", "EW", "ESW", "ESWN" * 50):
            self.assertEqual(led(BLOCK, (0, 0), walk, walk), [])

    def test_one_move(self):
        self.assertEqual(led(["##"], (0, 0), "EW", ""), [("drop", 0, "")])
        self.assertEqual(led(["##"], (0, 0), "", "EW"), [("add", 0, "E")])
        self.assertEqual(led(BLOCK, (0, 0), "ES", "SE"), [("turn", 0, "")])
        self.assertEqual(led(BLOCK, (0, 0), "SE", "ES"), [("turn", 0, "")])

    def test_by_way_of_what_is_shorter(self):
        self.check(["###"], (0, 1), "EW", "WE")
        self.check(BLOCK, (0, 0), "ESWN", "SENW")
        self.check(BLOCK, (0, 0), "ESW", "EWS")
        self.check(RING, (0, 0), "EEWWEES", "SNEES")

    def test_longest(self):
        self.check(["###"], (0, 1), "EW" * 100, "WE" * 100)
        self.check(["##"], (0, 0), "", "EW" * 100)
        self.check(BLOCK, (0, 0), "ESWN" * 50, "SENW" * 50)
        self.check(ALL_LAND, (0, 0), "E" * 15 + "S" * 15, "S" * 15 + "E" * 15)
        self.check(RING, (0, 0), AROUND * 24 + "EWEWEWEW", "SNSNSNSN" + AROUND * 24)

    def test_all_small_walks(self):
        for grid, longest in SMALL:
            begin = land_cells(grid)[0]
            groups = alike_classes(grid, begin, longest - 1)
            for at, group in enumerate(groups):
                for one in group[::29]:
                    for other in group[::23]:
                        self.check(grid, begin, one, other)
                    for stranger in (groups[at - 1][0], groups[(at + 1) % len(groups)][0]):
                        if stranger not in group:
                            unlike = way_of(grid, begin, one)[-1] != way_of(grid, begin, stranger)[-1]
                            self.refused(Ends if unlike else Apart, led, grid, begin, one, stranger)

    def test_drawn_walks(self):
        for grid, begin, one, other in alike_pairs(30):
            if len(other) <= 200:
                self.check(grid, begin, one, other)
                self.check(grid, begin, other, one)

    def test_apart(self):
        self.refused(Apart, led, RING, (0, 0), "EESS", "SSEE")
        self.refused(Apart, led, RING, (0, 0), "", AROUND)
        self.refused(Apart, led, RING, (0, 0), AROUND, AROUND * 2)
        self.refused(Apart, led, RING, (0, 0), AROUND, turned_back(AROUND))
        both = "EESSWWNN" + "WWSSEENN"
        self.refused(Apart, led, IN_A_ROW, (0, 2), both, "WWSSEENN" + "EESSWWNN")

    def test_ends(self):
        self.refused(Ends, led, BLOCK, (0, 0), "E", "S")
        self.refused(Ends, led, BLOCK, (0, 0), "", "ES")
        self.refused(Ends, led, RING, (0, 0), AROUND, "E")


class AlikeTest(MoorTest):
    def check(self, grid, begin, one, other):
        told = alike(grid, begin, one, other)
        words = [word_by_hand(grid, begin, walk) for walk in (one, other)]
        if words[0] == words[1]:
            self.assertIs(type(told), Led)
            self.assertTrue(turns_and_drops(told.first) and turns_and_drops(told.second))
            first = after_all(grid, begin, one, told.first)
            self.assertEqual(first[-1], after_all(grid, begin, other, told.second)[-1])
        else:
            self.assertIs(type(told), Parted)
            self.assertEqual(len(told.turnings), len(pond_firsts(grid)))
            self.assertTrue(1 <= told.sheets <= 4001)
            for turning in told.turnings:
                self.assertEqual(sorted(turning), list(range(told.sheets)))
            ends = [led_sheet(told.turnings, word, 0) for word in words]
            self.assertNotEqual(ends[0], ends[1])
        self.assertIs(told.shows(grid, begin, one, other), True)
        return type(told)

    def test_alike(self):
        self.assertIs(self.check(["#"], (0, 0), "", ""), Led)
        self.assertIs(self.check(BLOCK, (0, 0), "ES", "SE"), Led)
        self.assertIs(self.check(RING, (0, 0), "EEWW", "SN"), Led)
        self.assertIs(self.check(ALL_LAND, (0, 0), "E" * 15 + "S" * 15, "S" * 15 + "E" * 15), Led)
        self.assertIs(self.check(["###"], (0, 1), "EW" * 100, "WE" * 100), Led)

    def test_apart(self):
        self.assertIs(self.check(RING, (0, 0), "EESS", "SSEE"), Parted)
        self.assertIs(self.check(RING, (0, 0), "", AROUND), Parted)
        self.assertIs(self.check(RING, (0, 0), AROUND * 24, AROUND * 25), Parted)
        self.assertIs(self.check(RING, (0, 0), AROUND * 25, turned_back(AROUND) * 25), Parted)
        one, other = "EESSWWNN", "WWSSEENN"
        self.assertIs(self.check(IN_A_ROW, (0, 2), one + other, other + one), Parted)

    def test_longest_with_most_ponds(self):
        grid = many_ponds()
        one = (("E" * 15 + "SS" + "W" * 15 + "NN") * 6)[:200]
        other = (("SS" + "E" * 15 + "NN" + "W" * 15) * 6)[:200]
        home = way_to(grid, way_of(grid, (0, 0), other[:180])[-1], way_of(grid, (0, 0), one)[-1])
        self.assertIs(self.check(grid, (0, 0), one, other[:180] + home), Parted)
        self.assertIs(self.check(grid, (0, 0), one, one), Led)

    def test_all_small_walks(self):
        for grid, longest in SMALL:
            begin = land_cells(grid)[-1]
            groups = alike_classes(grid, begin, longest - 1)
            for at, group in enumerate(groups):
                self.assertIs(self.check(grid, begin, group[0], group[-1]), Led)
                for later in groups[at + 1:]:
                    if way_of(grid, begin, group[0])[-1] == way_of(grid, begin, later[0])[-1]:
                        self.assertIs(self.check(grid, begin, group[-1], later[-1]), Parted)

    def test_drawn_walks(self):
        numbers = mixed_numbers(97)
        kinds = []
        for grid, begin, one, other in alike_pairs(40):
            if len(other) <= 200:
                self.assertIs(self.check(grid, begin, one, other), Led)
            end = way_of(grid, begin, one)[-1]
            walk = drawn_walk(numbers, grid, begin, 60)
            walk += way_to(grid, way_of(grid, begin, walk)[-1], end)
            kinds.append(self.check(grid, begin, one, walk))
        self.assertGreater(min(kinds.count(Led), kinds.count(Parted)), 30)

    def test_ends(self):
        self.refused(Ends, alike, BLOCK, (0, 0), "E", "S")
        self.refused(Ends, alike, RING, (0, 0), "", "E")

    def test_what_is_told_is_new(self):
        told = alike(RING, (0, 0), "EESS", "SSEE")
        before = [list(turning) for turning in told.turnings]
        told.turnings[0].reverse()
        told.turnings.append("spoilt")
        again = alike(RING, (0, 0), "EESS", "SSEE")
        self.assertEqual(again.turnings, before)
        told = alike(BLOCK, (0, 0), "ES", "ES")
        told.first.append("spoilt")
        self.assertEqual(told.second, [("turn", 0, "")])
        self.assertEqual(alike(BLOCK, (0, 0), "ES", "ES").first, [("turn", 0, "")])


def pairs_of_rounds(many):
    """Rounds from begins in one piece: some turned, some led elsewhere, some drawn anew."""
    numbers = mixed_numbers(101)
    for grid in grids_with_ponds(many):
        for begin in land_cells(grid)[::17]:
            one = drawn_round(numbers, grid, begin, next(numbers) % 70)
            at = next(numbers) % (len(one) + 1)
            yield grid, begin, one, way_of(grid, begin, one)[at], one[at:] + one[:at]
            way = drawn_walk(numbers, grid, begin, next(numbers) % 30)
            place = way_of(grid, begin, way)[-1]
            yield grid, begin, one, place, (turned_back(way) + one + way)[:200 if len(one) < 140 else 0]
            yield grid, begin, one, place, drawn_round(numbers, grid, place, next(numbers) % 70)
            yield grid, begin, one, begin, turned_back(one)


class RoundsAlikeTest(MoorTest):
    def check(self, grid, begin, one, place, other):
        told = rounds_alike(grid, begin, one, place, other)
        first, second = word_by_hand(grid, begin, one), word_by_hand(grid, place, other)
        if round_form_by_hand(first) == round_form_by_hand(second):
            self.assertIs(type(told), Same)
            self.assertIs(type(told.way), str)
            cells = way_of(grid, begin, told.way)
            self.assertIsNotNone(cells)
            self.assertEqual(cells[-1], place)
            way = word_by_hand(grid, begin, told.way)
            self.assertEqual(taken_out(way + second + [-one for one in way[::-1]]), first)
        else:
            self.assertIs(type(told), Other)
            self.assertEqual(told.first, round_form_by_hand(first))
            self.assertEqual(told.second, round_form_by_hand(second))
        self.assertIs(told.shows(grid, begin, one, place, other), True)
        return type(told)

    def test_no_step(self):
        self.assertIs(self.check(["#"], (0, 0), "", (0, 0), ""), Same)
        self.assertIs(self.check(["##"], (0, 0), "", (0, 1), ""), Same)
        self.assertEqual(rounds_alike(["##"], (0, 0), "", (0, 1), "").way, "E")
        self.assertIs(self.check(RING, (0, 0), "", (2, 2), "NS"), Same)
        self.assertIs(self.check(RING, (0, 0), "", (2, 2), "NNWWSSEE"), Other)

    def test_one_pond(self):
        self.assertIs(self.check(RING, (0, 0), AROUND, (2, 2), "WWNNEESS"), Same)
        self.assertIs(self.check(RING, (0, 0), AROUND, (2, 2), "NNWWSSEE"), Other)
        self.assertIs(self.check(RING, (0, 0), AROUND, (0, 0), AROUND * 2), Other)
        self.assertIs(self.check(RING, (0, 0), AROUND * 25, (1, 0), "NEESSWWN" * 25), Same)
        self.assertIs(self.check(RING, (0, 0), AROUND * 25, (1, 0), "NEESSWWN" * 24), Other)

    def test_two_ponds(self):
        right, left = "EESSWWNN", "WWSSEENN"
        self.assertIs(self.check(IN_A_ROW, (0, 2), right + left, (0, 2), left + right), Same)
        self.assertIs(self.check(IN_A_ROW, (0, 2), right, (0, 2), left + right + turned_back(left)), Same)
        self.assertIs(self.check(IN_A_ROW, (0, 2), right, (0, 2), left), Other)
        one = right + left + turned_back(right) + turned_back(left)
        self.assertIs(self.check(IN_A_ROW, (0, 2), one, (0, 2), ""), Other)
        self.assertIs(self.check(IN_A_ROW, (0, 2), one, (0, 2), one[8:] + one[:8]), Same)
        self.assertIs(self.check(IN_A_ROW, (0, 2), one, (0, 2), turned_back(one)), Other)

    def test_longest(self):
        # The way and the round together are of more than 200 steps.
        right, left = "EESSWWNN", "WWSSEENN"
        one = (right + left) * 6 + right + turned_back((right + left) * 6)
        self.assertEqual(len(one), 200)
        self.assertIs(self.check(IN_A_ROW, (0, 2), right, (0, 2), one), Same)
        self.assertIs(self.check(IN_A_ROW, (0, 2), one, (0, 2), right), Same)
        self.assertIs(self.check(IN_A_ROW, (0, 2), one, (0, 2), left), Other)
        other = left * 12 + right + turned_back(left) * 12
        self.assertIs(self.check(IN_A_ROW, (0, 2), one, (0, 2), other), Same)
        self.assertGreater(len(rounds_alike(IN_A_ROW, (0, 2), one, (0, 2), other).way), 100)

    def test_a_piece_about_ponds_of_other_pieces(self):
        grid = rings()
        around = "E" * 15 + "S" * 15 + "W" * 15 + "N" * 15
        turned = around[30:] + around[:30]
        self.assertIs(self.check(grid, (0, 0), around, (15, 15), turned), Same)
        self.assertIs(self.check(grid, (0, 0), around, (15, 15), turned_back(turned)), Other)
        self.assertIs(self.check(grid, (0, 0), around * 3, (15, 15), turned), Other)
        self.assertIs(self.check(grid, (0, 0), around * 3, (15, 15), turned * 3), Same)

    def test_drawn_rounds(self):
        kinds = []
        for grid, begin, one, place, other in pairs_of_rounds(50):
            cells = way_of(grid, place, other)
            if len(one) <= 200 and cells and cells[-1] == place:
                kinds.append(self.check(grid, begin, one, place, other))
        self.assertGreater(min(kinds.count(Same), kinds.count(Other)), 60)

    def test_the_same_by_moves(self):
        many = 0
        for grid, begin, one, place, other in pairs_of_rounds(15):
            cells = way_of(grid, place, other)
            if cells and cells[-1] == place:
                told = rounds_alike(grid, begin, one, place, other)
                around = told.way + other + turned_back(told.way) if type(told) is Same else ""
                if 0 < len(around) <= 200:
                    self.assertEqual(tight(grid, begin, around), tight(grid, begin, one))
                    many += 1
        self.assertGreater(many, 20)

    def test_no_rounds(self):
        self.refused(NotRound, rounds_alike, BLOCK, (0, 0), "E", (0, 0), "")
        self.refused(NotRound, rounds_alike, BLOCK, (0, 0), "", (0, 0), "E")
        self.refused(NotRound, rounds_alike, BLOCK, (0, 0), "E", (0, 1), "W")
        self.refused(NotRound, rounds_alike, ["##.##"], (0, 0), "E", (0, 3), "")
        self.refused(NotRound, rounds_alike, ["##.##"], (0, 0), "", (0, 3), "E")

    def test_apart(self):
        self.refused(Apart, rounds_alike, ["##.##"], (0, 0), "", (0, 3), "")
        self.refused(Apart, rounds_alike, ["##.##"], (0, 0), "EW", (0, 4), "WE")
        self.refused(Apart, rounds_alike, ["#.", ".#"], (0, 0), "", (1, 1), "")
        both = ["#######", "#.....#", "#.###.#", "#.#.#.#", "#.###.#", "#.....#", "#######"]
        inner = "EESSWWNN"
        self.refused(Apart, rounds_alike, both, (0, 0), "", (2, 2), inner)
        self.refused(Apart, rounds_alike, both, (2, 2), inner, (0, 0), "")

    def test_cells_and_walks_by_their_order(self):
        for name, place in wrong_cells().items():
            with self.subTest(name):
                self.refused(BadCell, rounds_alike, BENT, (0, 0), "E", place, "x")
                self.refused(BadCell, rounds_alike, BENT, (0, 0), "", place, "")
                self.refused(BadCell, rounds_alike, BENT, (0, 0), "", place, None)
                self.refused(BadWalk, rounds_alike, BENT, (0, 0), "x", place, "x")
                self.refused(NoLand, rounds_alike, BENT, (0, 2), "x", place, "x")
        self.refused(NoLand, rounds_alike, BENT, (0, 0), "E", (0, 2), "x")
        self.refused(BadWalk, rounds_alike, BENT, (0, 0), "EE", (0, 2), "")
        for name, walk in wrong_letters().items():
            with self.subTest(name):
                self.refused(BadWalk, rounds_alike, BENT, (0, 0), "E", (0, 0), walk)
                self.refused(BadWalk, rounds_alike, BENT, (0, 0), walk, (0, 0), "E")
        self.refused(BadWalk, rounds_alike, BENT, (0, 0), "E", (0, 0), "W")
        self.refused(BadWalk, rounds_alike, ["#.#"], (0, 0), "", (0, 2), "W")

    def test_what_is_told_is_new(self):
        told = rounds_alike(RING, (0, 0), AROUND, (0, 0), "")
        self.assertEqual((told.first, told.second), ([1], []))
        told.first.append(1)
        told.second.append(1)
        again = rounds_alike(RING, (0, 0), AROUND, (0, 0), "")
        self.assertEqual((again.first, again.second), ([1], []))


class AllWalksTest(MoorTest):
    def asked(self, grid, begin, walk):
        for function in (tight, tightening):
            yield function, (grid, begin, walk)
        for function in (led, alike):
            for other in ("", "EW", "x", None):
                yield function, (grid, begin, walk, other)
        for place, other in (((0, 0), ""), (None, None), ((0, 2), "x")):
            yield rounds_alike, (grid, begin, walk, place, other)

    def test_wrong_grids(self):
        for name, wrong in wrong_grids().items():
            with self.subTest(name):
                for begin, walk in (((0, 0), ""), (None, None)):
                    for function, handed_in in self.asked(wrong, begin, walk):
                        self.refused(BadGrid, function, *handed_in)

    def test_wrong_begins(self):
        for name, (begin, kind) in wrong_begins().items():
            with self.subTest(name):
                for walk in ("EW", "E", "x", None):
                    for function, handed_in in self.asked(BENT, begin, walk):
                        self.refused(getattr(errors, kind), function, *handed_in)

    def test_wrong_walks(self):
        wrong = {**wrong_letters(), "off the land": "EE", "out of the grid": "N", "and back": "WE"}
        for name, walk in wrong.items():
            with self.subTest(name):
                for function, handed_in in self.asked(BENT, (0, 0), walk):
                    self.refused(BadWalk, function, *handed_in)
                for function in (led, alike):
                    for one in ("", "E", "EW", "ES"):
                        self.refused(BadWalk, function, BENT, (0, 0), one, walk)

    def test_nothing_is_changed_or_kept(self):
        for grid in POND_GRIDS:
            walk = way_to(grid, (0, 0), land_cells(grid)[len(land_cells(grid)) // 4])
            for function in (tight, tightening):
                self.tells_new(function, list(grid), (0, 0), walk + turned_back(walk))
            self.tells_new(led, list(grid), (0, 0), walk + turned_back(walk), "")
            self.tells_new(led, list(grid), (0, 0), "", walk + turned_back(walk))
        self.tells_new(led, list(BLOCK), (0, 0), "ESW", "EWS")
        before = list(RING)
        alike(before, (0, 0), "EESS", "SSEE")
        rounds_alike(before, (0, 0), AROUND, (0, 0), AROUND)
        self.assertEqual(before, RING)

    def test_a_grid_changed_in_between_is_told_anew(self):
        grid = list(RING)
        self.assertIs(type(alike(grid, (0, 0), "EESS", "SSEE")), Parted)
        self.assertEqual(tight(grid, (0, 0), "EESS"), "EESS")
        grid[1] = "###"
        self.assertIs(type(alike(grid, (0, 0), "EESS", "SSEE")), Led)
        self.assertEqual(tight(grid, (0, 0), "EESS"), "SSEE")


if __name__ == "__main__":
    unittest.main()
