"""Promises 23 to 26: coverings, what is lifted and joined on them, and words parted."""

import unittest

from oracles import cover_graph, flooded, led_sheet, pond_firsts, taken_out, turned_back, word_by_hand
from refusals import MoorTest
from shapes import (
    drawn_round, drawn_walk, grids_of, grids_with_ponds, land_cells, many_ponds, mixed_numbers,
    mixed_walks, rings, wrong_begins, wrong_counts, wrong_grids, wrong_letters, wrong_sheet,
    wrong_sheets, wrong_turnings, wrong_words,
)

from moorwalk import errors
from moorwalk.counting import balance, blocks, joins
from moorwalk.covers import covered, lifted, parting, sheets_joined
from moorwalk.errors import BadCell, BadCover, BadGrid, BadWalk, BadWord, NoLand, OneWord
from moorwalk.pieces import pieces

RING = ["###", "#.#", "###"]
AROUND = "EESSWWNN"
TURN = [[1, 2, 0]]
IN_A_ROW = ["#####", "#.#.#", "#####"]
TWO = [[1, 0, 2], [0, 2, 1]]
# It has no pond; wrong_begins tells cells for it.
BENT = ["##.", "###"]
MOST = 4001


def drawn_turning(numbers, sheets):
    """A turning of so many sheets."""
    left = list(range(sheets))
    return [left.pop(next(numbers) % len(left)) for _ in range(sheets)]


def drawn_covers(many, most_sheets=5):
    """As many triples of a grid, a count of sheets, and turnings, and those of grids with ponds."""
    numbers = mixed_numbers(61)
    for grid in grids_with_ponds(many):
        if len(grid) * len(grid[0]) <= 81:
            sheets = 1 + next(numbers) % most_sheets
            turnings = [drawn_turning(numbers, sheets) for _ in pond_firsts(grid)]
            if next(numbers) % 3 == 0:
                turnings = [list(range(sheets)) if at % 2 else one for at, one in enumerate(turnings)]
            yield grid, sheets, turnings


class LiftedTest(MoorTest):
    def test_no_pond(self):
        self.assertEqual(lifted(["#"], 1, [], (0, 0), 0, ""), 0)
        self.assertEqual(lifted(["##"], 7, [], (0, 0), 6, "EWE"), 6)
        self.assertEqual(lifted(["##"], MOST, [], (0, 0), 4000, "EW" * 100), 4000)

    def test_around_a_pond(self):
        for sheet in range(3):
            self.assertEqual(lifted(RING, 3, TURN, (0, 0), sheet, AROUND), (sheet + 1) % 3)
            self.assertEqual(lifted(RING, 3, TURN, (0, 0), sheet, turned_back(AROUND)), (sheet + 2) % 3)
            self.assertEqual(lifted(RING, 3, TURN, (0, 0), sheet, AROUND * 25), (sheet + 25) % 3)
            self.assertEqual(lifted(RING, 3, TURN, (0, 0), sheet, ""), sheet)

    def test_step_by_step(self):
        self.assertEqual(lifted(RING, 3, TURN, (0, 0), 0, "E"), 0)
        self.assertEqual(lifted(RING, 3, TURN, (0, 1), 0, "E"), 1)
        self.assertEqual(lifted(RING, 3, TURN, (0, 2), 0, "W"), 2)
        self.assertEqual(lifted(RING, 3, TURN, (2, 1), 0, "E"), 0)

    def test_turnings_in_turn(self):
        self.assertEqual(lifted(IN_A_ROW, 3, TWO, (0, 0), 0, "EEEE"), 2)
        self.assertEqual(lifted(IN_A_ROW, 3, TWO, (0, 4), 0, "WWWW"), 1)
        column = ["###", "#.#", "###", "#.#", "###"]
        self.assertEqual(lifted(column, 3, TWO, (0, 1), 0, "E"), 2)
        self.assertEqual(lifted(column, 3, TWO, (0, 2), 2, "W"), 0)
        self.assertEqual(lifted(column, 3, TWO, (0, 2), 0, "W"), 1)

    def test_one_sheet(self):
        self.assertEqual(lifted(IN_A_ROW, 1, [[0], [0]], (0, 0), 0, "EEEESSWWWWNN"), 0)
        for grid, begin, walk in mixed_walks(15):
            turnings = [[0] for _ in pond_firsts(grid)]
            self.assertEqual(lifted(grid, 1, turnings, begin, 0, walk), 0)

    def test_most_sheets(self):
        turning = [*range(1, MOST), 0]
        self.assertEqual(lifted(RING, MOST, [turning], (0, 0), 4000, AROUND), 0)
        self.assertEqual(lifted(RING, MOST, [turning], (0, 0), 0, turned_back(AROUND)), 4000)
        self.assertEqual(lifted(RING, MOST, [turning], (0, 0), 10, AROUND * 25), 35)
        turnings = [[(at + pond) % MOST for at in range(MOST)] for pond in range(49)]
        self.assertEqual(lifted(many_ponds(), MOST, turnings, (0, 0), 5, "E" * 15), 5 + 49 * 24)

    def test_the_word_alone_tells_it(self):
        numbers = mixed_numbers(67)
        moved = 0
        for grid, sheets, turnings in drawn_covers(60):
            for begin in land_cells(grid)[::6]:
                walk = drawn_walk(numbers, grid, begin, next(numbers) % 60)
                sheet = next(numbers) % sheets
                told = lifted(grid, sheets, turnings, begin, sheet, walk)
                self.assertEqual(told, led_sheet(turnings, word_by_hand(grid, begin, walk), sheet))
                moved += told != sheet
        self.assertGreater(moved, 20)

    def test_step_after_step_is_the_walk(self):
        numbers = mixed_numbers(71)
        for grid, sheets, turnings in drawn_covers(20):
            if land_cells(grid):
                begin = land_cells(grid)[-1]
                walk = drawn_walk(numbers, grid, begin, 40)
                graph = cover_graph(grid, sheets, turnings)
                place = (begin, 0)
                for letter in walk:
                    place = graph[place][letter]
                self.assertEqual(lifted(grid, sheets, turnings, begin, 0, walk), place[1])

    def test_wrong_sheet(self):
        for name, wrong in wrong_sheet().items():
            with self.subTest(name):
                self.refused(BadCover, lifted, RING, 3, TURN, (0, 0), wrong, "")
                self.refused(BadCover, lifted, RING, 3, TURN, (0, 0), wrong, "x")
                self.refused(BadCell, lifted, RING, 3, TURN, (3, 0), wrong, "")
                self.refused(NoLand, lifted, RING, 3, TURN, (1, 1), wrong, "")
                self.refused(BadCover, lifted, RING, 2, TURN, (3, 0), wrong, "")
                self.refused(BadGrid, lifted, [], 3, TURN, (0, 0), wrong, "")
        self.refused(BadCover, lifted, ["#"], 1, [], (0, 0), 1, "")

    def test_wrong_begins(self):
        for name, (begin, kind) in wrong_begins().items():
            with self.subTest(name):
                for sheet, walk in ((0, "EW"), (0, "x"), (None, "EW"), (3, None)):
                    self.refused(getattr(errors, kind), lifted, BENT, 3, [], begin, sheet, walk)
                self.refused(BadCover, lifted, BENT, 0, [], begin, 0, "")
                self.refused(BadCover, lifted, BENT, 3, TURN, begin, 0, "")

    def test_wrong_walks(self):
        for name, walk in wrong_letters().items():
            with self.subTest(name):
                self.refused(BadWalk, lifted, RING, 3, TURN, (0, 0), 0, walk)
                self.refused(BadCover, lifted, RING, 3, TURN, (0, 0), 3, walk)
        for walk in ("N", "ES", "EWW", "NS"):
            self.refused(BadWalk, lifted, RING, 3, TURN, (0, 0), 0, walk)


class SheetsJoinedTest(MoorTest):
    def test_no_pond(self):
        self.assertEqual(sheets_joined(["#"], 1, [], (0, 0)), [[0]])
        self.assertEqual(sheets_joined(["##"], 3, [], (0, 1)), [[0], [1], [2]])

    def test_around_a_pond(self):
        self.assertEqual(sheets_joined(RING, 3, TURN, (0, 0)), [[0, 1, 2]])
        self.assertEqual(sheets_joined(RING, 3, [[0, 1, 2]], (0, 0)), [[0], [1], [2]])
        self.assertEqual(sheets_joined(RING, 4, [[2, 1, 0, 3]], (2, 1)), [[0, 2], [1], [3]])
        self.assertEqual(sheets_joined(RING, 5, [[4, 3, 0, 1, 2]], (2, 1)), [[0, 2, 4], [1, 3]])

    def test_two_ponds(self):
        self.assertEqual(sheets_joined(IN_A_ROW, 3, TWO, (0, 0)), [[0, 1, 2]])
        self.assertEqual(sheets_joined(IN_A_ROW, 3, [[1, 0, 2], [0, 1, 2]], (0, 4)), [[0, 1], [2]])
        self.assertEqual(sheets_joined(IN_A_ROW, 3, [[0, 1, 2], [0, 2, 1]], (0, 0)), [[0], [1, 2]])

    def test_ponds_that_the_piece_has_not(self):
        grid = ["###.#", "#.#.#", "###.#"]
        self.assertEqual(sheets_joined(grid, 3, TURN, (0, 0)), [[0, 1, 2]])
        self.assertEqual(sheets_joined(grid, 3, TURN, (0, 4)), [[0], [1], [2]])
        # Each ring is around all the ponds within it: only both together turn the sheets here.
        both = ["#######", "#.....#", "#.###.#", "#.#.#.#", "#.###.#", "#.....#", "#######"]
        self.assertEqual(sheets_joined(both, 2, [[1, 0], [1, 0]], (0, 0)), [[0], [1]])
        self.assertEqual(sheets_joined(both, 2, [[1, 0], [1, 0]], (2, 2)), [[0, 1]])
        self.assertEqual(sheets_joined(both, 2, [[0, 1], [1, 0]], (0, 0)), [[0, 1]])
        self.assertEqual(sheets_joined(both, 2, [[1, 0], [0, 1]], (2, 2)), [[0], [1]])

    def test_the_cell_tells_which_sheets(self):
        # Both cells are of one piece, but left and right of a cut of another one's pond.
        grid = ["###", "#.#", "###", "...", "###", "#.#", "###"]
        turnings = [[1, 0, 2], [0, 2, 1]]
        self.assertEqual(sheets_joined(grid, 3, turnings, (0, 0)), [[0, 1], [2]])
        self.assertEqual(sheets_joined(grid, 3, turnings, (0, 2)), [[0, 2], [1]])
        self.assertEqual(sheets_joined(grid, 3, turnings, (4, 0)), [[0], [1, 2]])
        self.assertEqual(sheets_joined(grid, 3, turnings, (4, 2)), [[0], [1, 2]])

    def test_drawn_covers(self):
        shapes = set()
        for grid, sheets, turnings in drawn_covers(80, 6):
            graph = cover_graph(grid, sheets, turnings)
            for cell in land_cells(grid)[::5]:
                expected = []
                for sheet in range(sheets):
                    if not any(sheet in part for part in expected):
                        joined = flooded(graph, (cell, sheet))
                        expected.append(sorted(one for other, one in joined if other == cell))
                told = sheets_joined(grid, sheets, turnings, cell)
                self.assertEqual(told, expected)
                shapes.add(tuple(len(part) for part in told))
        self.assertGreater(len(shapes), 12, shapes)

    def test_a_round_leads_within_a_part(self):
        numbers = mixed_numbers(73)
        for grid, sheets, turnings in drawn_covers(20):
            for cell in land_cells(grid)[:1]:
                walk = drawn_round(numbers, grid, cell, 60)
                for part in sheets_joined(grid, sheets, turnings, cell):
                    for sheet in part:
                        self.assertIn(lifted(grid, sheets, turnings, cell, sheet, walk), part)

    def test_most_sheets_and_most_ponds(self):
        grid = many_ponds()
        stay = [list(range(MOST)) for _ in range(49)]
        self.assertEqual(sheets_joined(grid, MOST, stay, (15, 15)), [[at] for at in range(MOST)])
        stay[48] = [*range(1, MOST), 0]
        self.assertEqual(sheets_joined(grid, MOST, stay, (15, 15)), [list(range(MOST))])
        stay[48] = [0, *range(2, MOST), 1]
        stay[0] = [at ^ 1 if at < 4000 else at for at in range(MOST)]
        self.assertEqual(sheets_joined(grid, MOST, stay, (15, 15)), [list(range(MOST))])
        stay[48] = list(range(MOST))
        expected = [[at, at + 1] for at in range(0, 4000, 2)] + [[4000]]
        self.assertEqual(sheets_joined(grid, MOST, stay, (15, 15)), expected)

    def test_wrong_cells(self):
        for name, (cell, kind) in wrong_begins().items():
            with self.subTest(name):
                self.refused(getattr(errors, kind), sheets_joined, BENT, 3, [], cell)
                self.refused(BadCover, sheets_joined, BENT, 0, [], cell)
                self.refused(BadCover, sheets_joined, BENT, 3, TURN, cell)
        self.refused(NoLand, sheets_joined, RING, 3, TURN, (1, 1))
        self.refused(NoLand, sheets_joined, ["."], 3, [], (0, 0))


def covered_by_hand(grid, sheets, turnings):
    """The four counts, cell by cell and sheet by sheet."""
    graph = cover_graph(grid, sheets, turnings)
    pairs = {frozenset((one, other)) for one, steps in graph.items() for other in steps.values()}
    squares = set()
    for one in graph:
        way = [one]
        for letter in "ESWN":
            step = graph[way[-1]].get(letter)
            if step is None:
                break
            way.append(step)
        if len(way) == 5 and way[4] == one:
            squares.add(frozenset(way))
    left, many = set(graph), 0
    while left:
        left -= flooded(graph, min(left))
        many += 1
    return (len(graph), len(pairs), len(squares), many)


class CoveredTest(MoorTest):
    def test_none_and_one(self):
        self.assertEqual(covered(["."], 1, []), (0, 0, 0, 0))
        self.assertEqual(covered(["."], MOST, []), (0, 0, 0, 0))
        self.assertEqual(covered(["#"], 1, []), (1, 0, 0, 1))
        self.assertEqual(covered(["#"], 3, []), (3, 0, 0, 3))
        self.assertEqual(covered(["##", "##"], 2, []), (8, 8, 2, 2))

    def test_around_a_pond(self):
        self.assertEqual(covered(RING, 3, TURN), (24, 24, 0, 1))
        self.assertEqual(covered(RING, 3, [[0, 1, 2]]), (24, 24, 0, 3))
        self.assertEqual(covered(RING, 3, [[1, 0, 2]]), (24, 24, 0, 2))
        self.assertEqual(covered(IN_A_ROW, 3, TWO), (39, 42, 0, 1))

    def test_each_piece_by_itself(self):
        grid = ["###.#", "#.#.#", "###.#"]
        self.assertEqual(covered(grid, 3, TURN), (33, 30, 0, 4))
        both = ["#######", "#.....#", "#.###.#", "#.#.#.#", "#.###.#", "#.....#", "#######"]
        self.assertEqual(covered(both, 2, [[1, 0], [1, 0]])[3], 3)
        self.assertEqual(covered(both, 2, [[0, 1], [1, 0]])[3], 2)
        self.assertEqual(covered(both, 2, [[1, 0], [0, 1]])[3], 3)

    def test_drawn_covers(self):
        for grid, sheets, turnings in drawn_covers(80):
            told = covered(grid, sheets, turnings)
            self.assertIs(type(told), tuple)
            self.assertEqual(told, covered_by_hand(grid, sheets, turnings))

    def test_one_sheet_is_the_grid(self):
        for grid in grids_of(3, 4):
            turnings = [[0] for _ in pond_firsts(grid)]
            expected = (len(land_cells(grid)), joins(grid), blocks(grid), len(pieces(grid)))
            self.assertEqual(covered(grid, 1, turnings), expected)

    def test_cells_less_joins_and_blocks_more(self):
        for grid, sheets, turnings in drawn_covers(20):
            cells, pairs, squares, _ = covered(grid, sheets, turnings)
            self.assertEqual(cells - pairs + squares, sheets * balance(grid))

    def test_greatest(self):
        grid = many_ponds()
        cells = len(land_cells(grid))
        stay = [list(range(MOST)) for _ in range(49)]
        expected = (MOST * cells, MOST * joins(grid), MOST * blocks(grid))
        self.assertEqual(covered(grid, MOST, stay), (*expected, MOST))
        stay[20] = [*range(1, MOST), 0]
        self.assertEqual(covered(grid, MOST, stay), (*expected, 1))
        full = ["#" * 16] * 16
        self.assertEqual(covered(full, MOST, []), (MOST * 256, MOST * 480, MOST * 225, MOST))
        chequered = ["#." * 8, ".#" * 8] * 8
        self.assertEqual(covered(chequered, MOST, []), (MOST * 128, 0, 0, MOST * 128))

    def test_rings_within_one_another(self):
        turn = [1, 2, 0]
        self.assertEqual(covered(rings(), 3, [turn] * 4)[3], 1 + 3 + 1 + 1)


class WrongCoversTest(MoorTest):
    def asked(self, grid, sheets, turnings):
        yield covered, (grid, sheets, turnings)
        yield sheets_joined, (grid, sheets, turnings, (0, 0))
        yield sheets_joined, (grid, sheets, turnings, None)
        yield lifted, (grid, sheets, turnings, (0, 0), 0, "")
        yield lifted, (grid, sheets, turnings, (9, 9), 9, "x")

    def test_wrong_grids(self):
        for name, wrong in wrong_grids().items():
            with self.subTest(name):
                for sheets, turnings in ((3, TURN), (1, []), (0, None)):
                    for function, handed_in in self.asked(wrong, sheets, turnings):
                        self.refused(BadGrid, function, *handed_in)

    def test_wrong_sheets(self):
        for name, wrong in wrong_sheets().items():
            with self.subTest(name):
                for grid, turnings in ((RING, TURN), (["#"], []), (RING, None)):
                    for function, handed_in in self.asked(grid, wrong, turnings):
                        self.refused(BadCover, function, *handed_in)

    def test_wrong_turnings(self):
        for name, wrong in wrong_turnings().items():
            with self.subTest(name):
                for function, handed_in in self.asked(RING, 3, wrong):
                    self.refused(BadCover, function, *handed_in)

    def test_as_many_turnings_as_ponds(self):
        for turnings in ([], TURN, TURN * 3):
            for function, handed_in in self.asked(IN_A_ROW, 3, turnings):
                self.refused(BadCover, function, *handed_in)
        for turnings in (TURN, [[]], [None]):
            for function, handed_in in self.asked(["##"], 3, turnings):
                self.refused(BadCover, function, *handed_in)

    def test_a_later_turning(self):
        for wrong in ([0, 1], [0, 0, 1], [0, 1, 3], None, (0, 1, 2)):
            for function, handed_in in self.asked(IN_A_ROW, 3, [[0, 1, 2], wrong]):
                self.refused(BadCover, function, *handed_in)

    def test_as_many_sheets_as_a_turning_has(self):
        for sheets in (1, 2, 4, MOST):
            for function, handed_in in self.asked(RING, sheets, TURN):
                self.refused(BadCover, function, *handed_in)
        most = list(range(MOST + 1))
        for function, handed_in in self.asked(RING, MOST + 1, [most]):
            self.refused(BadCover, function, *handed_in)

    def test_nothing_is_changed_or_kept(self):
        for grid, sheets, turnings in drawn_covers(5):
            self.tells_new(covered, list(grid), sheets, turnings)
            for cell in land_cells(grid)[:1]:
                self.tells_new(sheets_joined, list(grid), sheets, turnings, cell)
                self.tells_new(lifted, list(grid), sheets, turnings, cell, 0, "")
        self.tells_new(lifted, list(RING), 3, [list(TURN[0])], (0, 0), 0, AROUND)

    def test_a_refusal_changes_nothing(self):
        grid, turnings = list(RING), [[1, 2, 0]]
        self.refused(BadWalk, lifted, grid, 3, turnings, (0, 0), 0, "SSS")
        self.refused(BadCover, sheets_joined, grid, 2, turnings, (0, 0))
        self.refused(BadCover, covered, grid, 3, [*turnings, [0]])
        self.assertEqual((grid, turnings), (RING, [[1, 2, 0]]))

    def test_one_turning_handed_in_for_several_ponds(self):
        turning = [1, 0]
        self.assertEqual(sheets_joined(IN_A_ROW, 2, [turning, turning], (0, 0)), [[0, 1]])
        self.assertEqual(turning, [1, 0])


def drawn_words(many, longest, highest):
    """As many pairs of unlike words, the same ones each time; some begin alike."""
    numbers = mixed_numbers(79)
    while many:
        pair = []
        for _ in range(2):
            drawn = [next(numbers) % highest + 1 for _ in range(next(numbers) % (longest + 1))]
            pair.append(taken_out([one if next(numbers) % 2 else -one for one in drawn]))
        if next(numbers) % 3 == 0:
            pair[1] = taken_out(pair[0][:next(numbers) % (len(pair[0]) + 1)] + pair[1])
        if pair[0] != pair[1]:
            many -= 1
            yield pair


class PartingTest(MoorTest):
    def parts(self, many, one, other):
        told = parting(many, one, other)
        self.assertIs(type(told), tuple)
        sheets, turnings = told
        self.assertIs(type(sheets), int)
        self.assertIs(type(turnings), list)
        self.assertTrue(1 <= sheets <= len(one) + len(other) + 1)
        self.assertEqual(len(turnings), many)
        for turning in turnings:
            self.assertIs(type(turning), list)
            self.assertEqual(sorted(turning), list(range(sheets)))
        self.assertNotEqual(led_sheet(turnings, one, 0), led_sheet(turnings, other, 0))
        self.assertEqual(len({id(turning) for turning in turnings}), many)

    def test_the_word_of_none(self):
        self.parts(1, [], [1])
        self.parts(1, [-1], [])
        self.parts(3, [], [2, 3, 3])
        self.assertEqual(parting(1, [], [1]), (2, [[1, 0]]))

    def test_one_begins_as_the_other(self):
        self.parts(2, [1, 2], [1, 2, 1])
        self.parts(2, [1, 2, -1, -1], [1, 2])
        self.parts(1, [1] * 5, [1] * 6)

    def test_one_pond(self):
        for one in range(-6, 7):
            for other in range(-6, 7):
                if one != other:
                    self.parts(1, self.power(one), self.power(other))

    def power(self, many):
        return [1] * many if many >= 0 else [-1] * -many

    def test_turned_and_undone(self):
        self.parts(2, [1, 2], [2, 1])
        self.parts(2, [1, 2, -1, -2], [])
        self.parts(2, [1, 2, 1], [-1, -2, -1])

    def test_greatest_count_of_ponds(self):
        self.parts(64, [64], [-64])
        self.parts(64, [1], [64])
        self.parts(64, list(range(1, 65)), list(range(64, 0, -1)))

    def test_longest(self):
        self.parts(1, [1] * 2000, [-1] * 2000)
        self.parts(1, [1] * 2000, [1] * 1999)
        self.parts(2, [1, 2] * 1000, [-2, -1] * 1000)
        self.parts(64, [1, 2] * 1000, [1, 2] * 999 + [1])
        self.parts(64, [1, 64] * 1000, [2, 64] * 1000)

    def test_drawn_words(self):
        for highest in (1, 2, 3, 5):
            for one, other in drawn_words(150, 10, highest):
                self.parts(highest, one, other)

    def test_a_covering_that_can_be_asked(self):
        sheets, turnings = parting(2, [1, 2], [2, 1])
        self.assertNotEqual(
            lifted(IN_A_ROW, sheets, turnings, (0, 0), 0, "EEEE"),
            led_sheet(turnings, [2, 1], 0),
        )

    def test_wrong_counts(self):
        for name, wrong in wrong_counts().items():
            with self.subTest(name):
                for one, other in (([], [1]), ([1], [1]), (None, [0]), ([], [])):
                    self.refused(BadCover, parting, wrong, one, other)

    def test_no_words(self):
        for name, wrong in wrong_words().items():
            with self.subTest(name):
                for many in (0, 3, 64):
                    self.refused(BadWord, parting, many, wrong, [])
                    self.refused(BadWord, parting, many, [], wrong)
                    self.refused(BadWord, parting, many, wrong, wrong)
                self.refused(BadCover, parting, 65, wrong, [1])

    def test_other_numbers(self):
        for number in (3, -3, 64, 10 ** 30, -10 ** 30):
            self.refused(BadWord, parting, 2, [number], [1])
            self.refused(BadWord, parting, 2, [1], [1, number])
            self.refused(BadWord, parting, 2, [number], [number])
        self.refused(BadWord, parting, 0, [1], [])
        self.refused(BadWord, parting, 0, [], [-1])
        self.refused(BadWord, parting, 64, [65], [1])
        self.refused(BadWord, parting, 64, [1], [-65])

    def test_one_word(self):
        for word in ([], [1], [2, -1, 2], [1] * 2000):
            self.refused(OneWord, parting, 2, word, list(word))
            self.refused(OneWord, parting, 2, word, word)
        self.refused(OneWord, parting, 0, [], [])

    def test_nothing_is_changed_or_kept(self):
        for one, other in drawn_words(20, 6, 2):
            self.tells_new(parting, 3, one, other)


if __name__ == "__main__":
    unittest.main()
