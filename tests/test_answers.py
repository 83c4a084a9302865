"""Promises 21 and 22: answers, their fields, and whether they show what they tell."""

import unittest

from oracles import turned_back
from refusals import MoorTest
from shapes import many_ponds, wrong_sheets, wrong_turnings

from moorwalk.answers import Answer, Led, Other, Parted, Same
from moorwalk.tight import alike, rounds_alike

BLOCK = ["##", "##"]
RING = ["###", "#.#", "###"]
AROUND = "EESSWWNN"
IN_A_ROW = ["#####", "#.#.#", "#####"]
ALL_LAND = ["#" * 16] * 16
TURN, DROP = ("turn", 0, ""), ("drop", 0, "")


class ClassesTest(MoorTest):
    def test_straight_under_answer(self):
        for kind in (Led, Parted, Same, Other):
            self.assertEqual(kind.__bases__, (Answer,))
        self.assertEqual(Answer.__bases__, (object,))

    def test_fields(self):
        told = Led([TURN], [DROP])
        self.assertEqual((told.first, told.second), ([TURN], [DROP]))
        told = Led(first=[], second=[DROP])
        self.assertEqual((told.first, told.second), ([], [DROP]))
        told = Parted(sheets=2, turnings=[[1, 0]])
        self.assertEqual((told.sheets, told.turnings), (2, [[1, 0]]))
        self.assertEqual(Same(way="ES").way, "ES")
        told = Other(first=[1], second=[2])
        self.assertEqual((told.first, told.second), ([1], [2]))

    def test_lists_are_copied(self):
        moves, more = [TURN], [DROP]
        told = Led(moves, more)
        moves.append(DROP)
        more.clear()
        self.assertEqual((told.first, told.second), ([TURN], [DROP]))
        told.first.append(DROP)
        self.assertEqual(moves, [TURN, DROP])
        one = [1]
        told = Other(one, one)
        one.append(2)
        told.first.append(3)
        self.assertEqual((one, told.first, told.second), ([1, 2], [1, 3], [1]))

    def test_lists_within_are_copied_too(self):
        turning = [1, 0]
        turnings = [turning, turning]
        told = Parted(2, turnings)
        turning.reverse()
        turnings.append([0, 1])
        self.assertEqual(told.turnings, [[1, 0], [1, 0]])
        told.turnings[0].append(5)
        self.assertEqual(told.turnings, [[1, 0, 5], [1, 0]])
        self.assertEqual(turnings, [[0, 1], [0, 1], [0, 1]])


class LedTest(MoorTest):
    def test_what_leads_to_one_walk(self):
        for grid, one, other, first, second in (
            (["#"], "", "", [], []),
            (BLOCK, "ES", "SE", [TURN], []),
            (BLOCK, "ES", "SE", [], [TURN]),
            (BLOCK, "ES", "SE", [TURN, TURN], [TURN]),
            (BLOCK, "ES", "SE", [TURN, TURN, TURN], []),
            (BLOCK, "ESW", "EWS", [("turn", 1, "")], []),
            (BLOCK, "ESW", "EWS", [TURN, ("drop", 1, "")], [DROP]),
            (RING, AROUND + "EWEE", AROUND + "EE", [("drop", 9, "")], []),
            (RING, AROUND + "EWEE", "SN" + AROUND + "EE", [("drop", 8, "")], [DROP]),
        ):
            self.assertIs(Led(first, second).shows(grid, (0, 0), one, other), True)

    def test_what_does_not(self):
        for one, other, first, second in (
            ("ES", "SE", [], []),
            ("ES", "SE", [TURN], [TURN]),
            ("EW", "", [], []),
            ("EW", "SN", [DROP], []),
            ("EWEW", "", [DROP], []),
        ):
            self.assertIs(Led(first, second).shows(BLOCK, (0, 0), one, other), False)

    def test_moves_that_cannot_be_done(self):
        for move in (
            ("turn", 1, ""), ("turn", -1, ""), ("turn", 10 ** 40, ""), ("turn", -10 ** 40, ""),
            ("drop", 0, ""), ("drop", 1, ""), ("drop", -1, ""), ("drop", 2, ""),
            ("turn", 0, "E"), ("turn", 0, " "), ("turn", 0, "turn"), ("", 0, ""), ("", 1, ""),
            ("TURN", 0, ""), ("turns", 0, ""), ("turn ", 0, ""), ("E", 0, ""), ("swap", 0, ""),
        ):
            with self.subTest(move):
                self.assertIs(Led([move, TURN], []).shows(BLOCK, (0, 0), "ES", "SE"), False)
                self.assertIs(Led([TURN, move], []).shows(BLOCK, (0, 0), "ES", "SE"), False)
                self.assertIs(Led([], [move, TURN]).shows(BLOCK, (0, 0), "ES", "ES"), False)
                self.assertIs(Led([move], [move]).shows(BLOCK, (0, 0), "ES", "ES"), False)
        self.assertIs(Led([DROP], [DROP]).shows(BLOCK, (0, 0), "", ""), False)
        self.assertIs(Led([("", 0, "")], []).shows(["###"], (0, 0), "EE", "EE"), False)

    def test_places_below_0_are_not_counted_from_the_end(self):
        for walk, move in (("ES", "turn"), ("ESNW", "drop"), ("ESSW", "drop")):
            for place in (-1, -2, -len(walk)):
                moves = [(move, place, "")]
                self.assertIs(Led(moves, moves).shows(ALL_LAND, (4, 4), walk, walk), False)

    def test_a_letter_with_a_drop(self):
        self.assertIs(Led([DROP], []).shows(BLOCK, (0, 0), "EW", ""), True)
        for letter in ("E", "W", "EW", " ", "drop"):
            self.assertIs(Led([("drop", 0, letter)], []).shows(BLOCK, (0, 0), "EW", ""), False)

    def test_turns_and_drops_alone(self):
        for move in (("add", 0, "E"), ("add", 0, ""), ("add", 1, "S"), ("add", -1, "x")):
            self.assertIs(Led([move], []).shows(BLOCK, (0, 0), "", "EW"), False)
            self.assertIs(Led([move, DROP], []).shows(BLOCK, (0, 0), "", ""), False)
            self.assertIs(Led([], [move]).shows(BLOCK, (0, 0), "EW", ""), False)

    def test_off_the_land(self):
        self.assertIs(Led([TURN], []).shows(["##", ".#"], (0, 0), "ES", "ES"), False)
        self.assertIs(Led([TURN], [TURN]).shows(["##", ".#"], (0, 0), "ES", "ES"), False)
        self.assertIs(Led([("turn", 1, "")], []).shows(RING, (0, 0), "EESS", "EESS"), False)

    def test_a_turn_then_one_more_that_it_makes_possible(self):
        grid = ["###", "###", "###"]
        moves = [("turn", 1, ""), TURN, ("turn", 2, ""), ("turn", 1, "")]
        self.assertIs(Led(moves, []).shows(grid, (0, 0), "EESS", "SSEE"), True)
        self.assertIs(Led(moves[:3], []).shows(grid, (0, 0), "EESS", "SSEE"), False)
        self.assertIs(Led(moves, []).shows(["###", "#.#", "###"], (0, 0), "EESS", "SSEE"), False)
        # The cell between is told anew by a turn, also where a drop came ahead of it.
        moves = [DROP, TURN]
        self.assertIs(Led(moves, []).shows(BLOCK, (0, 0), "EWES", "SE"), True)
        self.assertIs(Led(moves, []).shows(["##", ".#"], (0, 0), "EWES", "ES"), False)

    def test_longest(self):
        drops = [("drop", 0, "")] * 100
        self.assertIs(Led(drops, []).shows(["##"], (0, 0), "EW" * 100, ""), True)
        self.assertIs(Led(drops + drops, []).shows(["##"], (0, 0), "EW" * 100, ""), False)
        self.assertIs(Led([("drop", 198, "")], []).shows(["##"], (0, 0), "EW" * 100, "EW" * 99), True)
        self.assertIs(Led([("turn", 0, "")] * 2000, []).shows(BLOCK, (0, 0), "ES", "ES"), True)

    def test_by_the_fields_as_they_stand_then(self):
        told = Led([], [])
        self.assertIs(told.shows(BLOCK, (0, 0), "ES", "SE"), False)
        told.first.append(TURN)
        self.assertIs(told.shows(BLOCK, (0, 0), "ES", "SE"), True)
        self.assertIs(told.shows(BLOCK, (0, 0), "ES", "SE"), True)
        told.second = [TURN]
        self.assertIs(told.shows(BLOCK, (0, 0), "ES", "SE"), False)
        told.first = []
        self.assertIs(told.shows(BLOCK, (0, 0), "ES", "SE"), True)
        self.assertEqual((told.first, told.second), ([], [TURN]))

    def test_of_other_walks(self):
        told = alike(BLOCK, (0, 0), "ES", "SE")
        self.assertIs(told.shows(BLOCK, (0, 0), "ES", "SE"), True)
        self.assertIs(told.shows(BLOCK, (0, 0), "ES", "ES"), False)
        told = alike(ALL_LAND, (0, 0), "E" * 15 + "S" * 15, "S" * 15 + "E" * 15)
        self.assertIs(told.shows(ALL_LAND, (0, 0), "E" * 15 + "S" * 15, "S" * 15 + "E" * 15), True)
        self.assertIs(told.shows(ALL_LAND, (0, 0), "E" * 15 + "S" * 15, "E" * 15 + "S" * 15), False)
        holed = ALL_LAND[:7] + ["#######.########"] + ALL_LAND[8:]
        self.assertIs(told.shows(holed, (0, 0), "E" * 15 + "S" * 15, "S" * 15 + "E" * 15), False)


class PartedTest(MoorTest):
    ASKED = (RING, (0, 0), "EESS", "SSEE")

    def test_what_parts_two_walks(self):
        self.assertIs(Parted(2, [[1, 0]]).shows(*self.ASKED), True)
        self.assertIs(Parted(3, [[1, 2, 0]]).shows(*self.ASKED), True)
        self.assertIs(Parted(4001, [[*range(1, 4001), 0]]).shows(*self.ASKED), True)
        self.assertIs(Parted(3, [[1, 2, 0]]).shows(RING, (0, 0), "", AROUND * 25), True)
        self.assertIs(Parted(3, [[1, 2, 0]]).shows(RING, (0, 0), AROUND, turned_back(AROUND)), True)

    def test_what_does_not(self):
        self.assertIs(Parted(1, [[0]]).shows(*self.ASKED), False)
        self.assertIs(Parted(2, [[0, 1]]).shows(*self.ASKED), False)
        self.assertIs(Parted(3, [[0, 2, 1]]).shows(*self.ASKED), False)
        self.assertIs(Parted(2, [[1, 0]]).shows(RING, (0, 0), AROUND, turned_back(AROUND)), False)
        self.assertIs(Parted(2, [[1, 0]]).shows(RING, (0, 0), "", AROUND * 2), False)
        self.assertIs(Parted(5, []).shows(BLOCK, (0, 0), "ES", "SE"), False)

    def test_from_sheet_0(self):
        one, other = "EESSWWNN" + "WWSSEENN", "WWSSEENN" + "EESSWWNN"
        self.assertIs(Parted(3, [[0, 2, 1], [0, 1, 2]]).shows(IN_A_ROW, (0, 2), "", one), False)
        self.assertIs(Parted(3, [[1, 0, 2], [0, 2, 1]]).shows(IN_A_ROW, (0, 2), one, other), True)
        self.assertIs(Parted(3, [[0, 2, 1], [0, 2, 1]]).shows(IN_A_ROW, (0, 2), "", one), False)

    def test_no_coverings(self):
        for sheets, turnings in (
            (0, [[]]), (0, []), (-1, [[1, 0]]), (1, [[1, 0]]), (3, [[1, 0]]), (10 ** 30, [[1, 0]]),
            (4002, [[*range(1, 4002), 0]]), (2, []), (2, [[1, 0], [1, 0]]), (2, [[1]]), (2, [[]]),
            (2, [[1, 1]]), (2, [[1, 2]]), (2, [[1, -1]]), (2, [[1, -2]]), (2, [[1, 0, 0]]),
            (2, [[1, 0, 2]]), (2, [[-1, -2]]), (2, [[1, 10 ** 30]]),
        ):
            self.assertIs(Parted(sheets, turnings).shows(*self.ASKED), False)

    def test_what_is_refused_elsewhere_shows_nothing(self):
        for sheets in wrong_sheets().values():
            self.assertIs(Parted(sheets, [[1, 2, 0]]).shows(*self.ASKED), False)
        for name, turnings in wrong_turnings().items():
            if name != "itself":
                self.assertIs(Parted(3, turnings).shows(*self.ASKED), False)

    def test_no_covering_of_this_grid(self):
        told = alike(*self.ASKED)
        self.assertIs(told.shows(*self.ASKED), True)
        self.assertIs(told.shows(["###", "###", "###"], (0, 0), "EESS", "SSEE"), False)
        self.assertIs(told.shows(IN_A_ROW, (0, 0), "EESS", "SSEE"), False)

    def test_by_the_fields_as_they_stand_then(self):
        told = Parted(2, [[0, 1]])
        self.assertIs(told.shows(*self.ASKED), False)
        told.turnings[0].reverse()
        self.assertIs(told.shows(*self.ASKED), True)
        told.sheets = 3
        self.assertIs(told.shows(*self.ASKED), False)
        told.turnings[0].append(2)
        self.assertIs(told.shows(*self.ASKED), True)
        told.turnings = []
        self.assertIs(told.shows(*self.ASKED), False)
        self.assertEqual((told.sheets, told.turnings), (3, []))

    def test_a_walk_and_itself(self):
        self.assertIs(Parted(2, [[1, 0]]).shows(RING, (0, 0), AROUND, AROUND), False)

    def test_greatest(self):
        grid = many_ponds()
        turning = [*range(1, 4001), 0]
        one, other = "E" * 15 + "SS" + "W" * 15 + "NN", "SSNN"
        self.assertIs(Parted(4001, [turning] * 49).shows(grid, (0, 0), one, other), True)
        stay = list(range(4001))
        self.assertIs(Parted(4001, [stay] * 49).shows(grid, (0, 0), one, other), False)


class SameTest(MoorTest):
    def test_ways_that_lead_from_round_to_round(self):
        self.assertIs(Same("").shows(["#"], (0, 0), "", (0, 0), ""), True)
        self.assertIs(Same("").shows(RING, (0, 0), AROUND, (0, 0), AROUND), True)
        for way in ("EESS", "SSEE", AROUND + "EESS", AROUND * 9 + "EESS", "EWEESS"):
            self.assertIs(Same(way).shows(RING, (0, 0), AROUND, (2, 2), "WWNNEESS"), True)

    def test_ways_that_do_not(self):
        asked = (IN_A_ROW, (0, 2), "EESSWWNN", (0, 2), "EESSWWNN")
        self.assertIs(Same("").shows(*asked), True)
        self.assertIs(Same("EESSWWNN").shows(*asked), True)
        self.assertIs(Same("WWSSEENN").shows(*asked), False)
        self.assertIs(Same("EESSWWNN" + "WWSSEENN").shows(*asked), False)
        self.assertIs(Same("").shows(RING, (0, 0), AROUND, (0, 0), ""), False)
        self.assertIs(Same("").shows(RING, (0, 0), AROUND, (0, 0), turned_back(AROUND)), False)
        self.assertIs(Same("").shows(RING, (0, 0), AROUND, (0, 0), AROUND * 2), False)

    def test_this_way_around(self):
        right, left = "EESSWWNN", "WWSSEENN"
        other = turned_back(left) + right + left
        self.assertIs(Same(left).shows(IN_A_ROW, (0, 2), right, (0, 2), other), True)
        self.assertIs(Same(turned_back(left)).shows(IN_A_ROW, (0, 2), right, (0, 2), other), False)
        self.assertIs(Same(turned_back(left)).shows(IN_A_ROW, (0, 2), other, (0, 2), right), True)
        self.assertIs(Same(left).shows(IN_A_ROW, (0, 2), other, (0, 2), right), False)

    def test_ways_to_elsewhere(self):
        for way in ("", "E", "EES", "EESSN", AROUND, "EESSWWNNE"):
            self.assertIs(Same(way).shows(RING, (0, 0), AROUND, (2, 2), "WWNNEESS"), False)
        self.assertIs(Same("E").shows(["##"], (0, 0), "", (0, 0), ""), False)
        self.assertIs(Same("").shows(["##"], (0, 0), "", (0, 1), ""), False)

    def test_ways_off_the_land(self):
        for way in ("ESSE", "SEES", "NSEESS", "EEESWS", "WEEESS", "SSSNEE"):
            self.assertIs(Same(way).shows(RING, (0, 0), AROUND, (2, 2), "WWNNEESS"), False)
        self.assertIs(Same("EE").shows(["#.#"], (0, 0), "", (0, 2), ""), False)
        self.assertIs(Same("E" * 500 + "W" * 500).shows(["##"], (0, 0), "", (0, 0), ""), False)

    def test_a_way_of_any_length(self):
        self.assertIs(Same("EW" * 5000).shows(RING, (0, 0), AROUND, (0, 0), AROUND), True)
        self.assertIs(Same(AROUND * 3000).shows(RING, (0, 0), AROUND, (0, 0), AROUND), True)
        self.assertIs(Same(AROUND * 3000 + "E").shows(RING, (0, 0), AROUND, (0, 0), AROUND), False)
        self.assertIs(Same(AROUND * 3000).shows(RING, (0, 0), AROUND * 25, (0, 0), AROUND * 25), True)

    def test_by_the_field_as_it_stands_then(self):
        told = rounds_alike(RING, (0, 0), AROUND, (2, 2), "WWNNEESS")
        asked = (RING, (0, 0), AROUND, (2, 2), "WWNNEESS")
        self.assertIs(told.shows(*asked), True)
        told.way = "EE"
        self.assertIs(told.shows(*asked), False)
        told.way = "SSEE"
        self.assertIs(told.shows(*asked), True)


class OtherTest(MoorTest):
    ASKED = (IN_A_ROW, (0, 2), "EESSWWNN", (0, 2), "WWSSEENN")

    def test_round_forms_that_are_unlike(self):
        self.assertIs(Other([2], [-1]).shows(*self.ASKED), True)
        self.assertIs(Other([], [1]).shows(RING, (0, 0), "", (2, 2), "WWNNEESS"), True)
        self.assertIs(Other([1] * 25, [1]).shows(RING, (0, 0), AROUND * 25, (0, 0), AROUND), True)

    def test_what_does_not_show_it(self):
        for first, second in (
            ([], []), ([2], [2]), ([-1], [2]), ([2], []), ([], [-1]), ([2], [1]), ([-2], [-1]),
            ([2, 2], [-1]), ([2], [-1, -1]), ([0], [1]), ([1, 2, -1], [-1]), ([2], [-2, -1, 2]),
            ([10 ** 40], [-1]),
        ):
            self.assertIs(Other(first, second).shows(*self.ASKED), False)

    def test_round_forms_that_are_like(self):
        self.assertIs(Other([1], [1]).shows(RING, (0, 0), AROUND, (2, 2), "WWNNEESS"), False)
        self.assertIs(Other([], []).shows(["#"], (0, 0), "", (0, 0), ""), False)

    def test_least_turnings_alone(self):
        one = "EESSWWNN" + turned_back("WWSSEENN")
        asked = (IN_A_ROW, (0, 2), one, (0, 2), "")
        self.assertIs(Other([1, 2], []).shows(*asked), True)
        self.assertIs(Other([2, 1], []).shows(*asked), False)

    def test_by_the_fields_as_they_stand_then(self):
        told = rounds_alike(*self.ASKED)
        self.assertIs(told.shows(*self.ASKED), True)
        told.first.append(2)
        self.assertIs(told.shows(*self.ASKED), False)
        told.first.pop()
        told.second = [1]
        self.assertIs(told.shows(*self.ASKED), False)
        told.second[0] = -1
        self.assertIs(told.shows(*self.ASKED), True)


class NothingChangedTest(MoorTest):
    def test_nothing_is_changed_or_kept(self):
        grid = list(RING)
        asked = (grid, (0, 0), "EESS", "SSEE")
        for told in (Led([TURN], [DROP]), Parted(2, [[1, 0]])):
            before = {name: repr(held) for name, held in vars(told).items()}
            told.shows(*asked)
            self.assertEqual({name: repr(held) for name, held in vars(told).items()}, before)
        for told in (Same("EESS"), Other([1], [])):
            before = {name: repr(held) for name, held in vars(told).items()}
            told.shows(grid, (0, 0), AROUND, (2, 2), "")
            self.assertEqual({name: repr(held) for name, held in vars(told).items()}, before)
        self.assertEqual(grid, RING)

    def test_a_grid_changed_in_between(self):
        grid = list(RING)
        told = Led([("turn", 1, "")], [])
        self.assertIs(told.shows(grid, (0, 0), "EESS", "EESS"), False)
        grid[1] = "###"
        self.assertIs(told.shows(grid, (0, 0), "EESS", "ESES"), True)


if __name__ == "__main__":
    unittest.main()
