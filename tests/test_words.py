"""Promises 16, 17 and 18: words of walks, words together, undone, round forms, turns about."""

import itertools
import unittest

from oracles import (
    after, alike_classes, pond_firsts, round_form_by_hand, taken_out, turned_back, word_by_hand,
)
from refusals import MoorTest
from shapes import (
    LETTERS, POND_GRIDS, drawn_round, drawn_walk, grids_with_ponds, land_cells, many_ponds,
    mixed_numbers, mixed_walks, rings, way_of, wrong_begins, wrong_grids, wrong_letters, wrong_words,
)

from moorwalk import errors
from moorwalk.errors import BadGrid, BadWalk, BadWord, NotRound
from moorwalk.walks import moves_of
from moorwalk.words import round_form, together, turns_about, undone, word_of

RING = ["###", "#.#", "###"]
BENT = ["##.", "###"]
IN_A_ROW = ["#####", "#.#.#", "#####"]
IN_A_COLUMN = ["###", "#.#", "###", "#.#", "###"]
# The first cell of the pond is right of its last one, below it and left of it are others.
AROUND = ["#####", "##..#", "#...#", "#####"]


def all_words(numbers, longest):
    """All words of these numbers and their opposites."""
    for many in range(longest + 1):
        for word in itertools.product([*numbers, *(-one for one in numbers)], repeat=many):
            if taken_out(word) == list(word):
                yield list(word)


def drawn_words(many, longest, highest):
    """As many pairs of words, the same ones each time."""
    numbers = mixed_numbers(31)
    for _ in range(many):
        pair = []
        for _ in range(2):
            drawn = [next(numbers) % highest + 1 for _ in range(next(numbers) % (longest + 1))]
            pair.append(taken_out([one if next(numbers) % 2 else -one for one in drawn]))
        yield pair


class WordOfTest(MoorTest):
    def test_no_step_and_no_pond(self):
        self.assertEqual(word_of(["#"], (0, 0), ""), [])
        self.assertEqual(word_of(RING, (0, 0), ""), [])
        self.assertEqual(word_of(["##", "##"], (0, 0), "ESWN"), [])
        self.assertEqual(word_of(["#" * 16] * 16, (0, 0), "E" * 15 + "S" * 15 + "W" * 15), [])

    def test_one_step_out_of_the_column_and_into_it(self):
        self.assertEqual(word_of(RING, (0, 0), "E"), [])
        self.assertEqual(word_of(RING, (0, 1), "E"), [1])
        self.assertEqual(word_of(RING, (0, 2), "W"), [-1])
        self.assertEqual(word_of(RING, (0, 1), "W"), [])

    def test_below_the_pond_nothing_is_written(self):
        self.assertEqual(word_of(RING, (2, 1), "E"), [])
        self.assertEqual(word_of(RING, (2, 2), "W"), [])
        self.assertEqual(word_of(["####", "#..#", "####"], (2, 0), "EEE"), [])

    def test_in_the_row_of_the_first_cell_nothing_is_written(self):
        # Beside the first cell in its row there is another pond's column.
        grid = ["#####", "#.###", "###.#", "#####"]
        self.assertEqual(pond_firsts(grid), [(1, 1), (2, 3)])
        self.assertEqual(word_of(grid, (1, 2), "E"), [])
        self.assertEqual(word_of(grid, (1, 3), "E"), [2])
        self.assertEqual(word_of(grid, (2, 2), "W"), [])
        self.assertEqual(word_of(grid, (0, 1), "E"), [1])

    def test_the_cut_goes_from_the_first_cell_alone(self):
        self.assertEqual(pond_firsts(AROUND), [(1, 2)])
        self.assertEqual(word_of(AROUND, (0, 0), "EEEE"), [1])
        self.assertEqual(word_of(AROUND, (0, 1), "E"), [])
        self.assertEqual(word_of(AROUND, (0, 2), "E"), [1])
        self.assertEqual(word_of(AROUND, (0, 3), "E"), [])
        self.assertEqual(word_of(AROUND, (3, 4), "WWWW"), [])

    def test_the_cut_goes_up_to_the_top(self):
        grid = ["###", "###", "###", "#.#", "###"]
        for row in range(3):
            self.assertEqual(word_of(grid, (row, 1), "E"), [1])
            self.assertEqual(word_of(grid, (row, 2), "W"), [-1])
        grid = ["###", "...", "###", "#.#", "###"]
        self.assertEqual(word_of(grid, (0, 0), "EE"), [1])
        self.assertEqual(word_of(grid, (2, 0), "EE"), [1])

    def test_ponds_in_one_column(self):
        self.assertEqual(word_of(IN_A_COLUMN, (0, 1), "E"), [1, 2])
        self.assertEqual(word_of(IN_A_COLUMN, (0, 2), "W"), [-2, -1])
        self.assertEqual(word_of(IN_A_COLUMN, (2, 1), "E"), [2])
        self.assertEqual(word_of(IN_A_COLUMN, (2, 2), "W"), [-2])
        self.assertEqual(word_of(IN_A_COLUMN, (4, 1), "E"), [])

    def test_around(self):
        self.assertEqual(word_of(RING, (0, 0), "EESSWWNN"), [1])
        self.assertEqual(word_of(RING, (0, 0), "SSEENNWW"), [-1])
        self.assertEqual(word_of(RING, (0, 0), "EESSWWNN" * 3), [1, 1, 1])
        self.assertEqual(word_of(IN_A_ROW, (0, 0), "EEEESSWWWWNN"), [1, 2])
        self.assertEqual(word_of(IN_A_ROW, (0, 2), "EESSWWNNWWSSEENN"), [2, -1])
        self.assertEqual(word_of(IN_A_COLUMN, (2, 0), "EESSWWNN"), [2])
        self.assertEqual(word_of(IN_A_COLUMN, (0, 0), "EESSWWNN"), [1])

    def test_opposites_are_taken_out_within_one_another(self):
        self.assertEqual(word_of(RING, (0, 1), "EW"), [])
        self.assertEqual(word_of(RING, (0, 1), "EWE"), [1])
        self.assertEqual(word_of(IN_A_ROW, (0, 0), "EEEEWWWW"), [])
        self.assertEqual(word_of(IN_A_COLUMN, (0, 1), "EW"), [])
        self.assertEqual(word_of(RING, (0, 0), "EESSWWNN" + "SSEENNWW"), [])

    def test_longest(self):
        self.assertEqual(word_of(RING, (0, 0), "EESSWWNN" * 25), [1] * 25)
        walk = (("E" * 15 + "SS" + "W" * 15 + "NN") * 6)[:200]
        told = word_of(many_ponds(), (0, 0), walk)
        self.assertEqual(told, word_by_hand(many_ponds(), (0, 0), walk))
        self.assertEqual(len(told), 468)

    def test_many_ponds_in_a_column(self):
        grid = many_ponds()
        told = word_of(grid, (0, 1), "E")
        self.assertEqual(told, [1 + 7 * row for row in range(7)])
        self.assertEqual(word_of(grid, (0, 2), "W"), [-one for one in told[::-1]])
        self.assertEqual(word_of(grid, (4, 3), "E"), [16 + 7 * row for row in range(5)])

    def test_rings_within_one_another(self):
        grid = rings()
        around = "E" * 15 + "S" * 15 + "W" * 15 + "N" * 15
        self.assertEqual(len(pond_firsts(grid)), 4)
        self.assertEqual(word_of(grid, (0, 0), around), [1, 2, 3, 4])
        around = "E" * 7 + "S" * 7 + "W" * 7 + "N" * 7
        self.assertEqual(word_of(grid, (4, 4), around), [3, 4])

    def test_mixed_walks(self):
        for grid, begin, walk in mixed_walks(60):
            told = word_of(grid, begin, walk)
            self.assertIs(type(told), list)
            self.assertEqual(told, word_by_hand(grid, begin, walk))

    def test_walks_about_ponds(self):
        numbers = mixed_numbers(41)
        lengths = set()
        for grid in grids_with_ponds(60):
            for begin in land_cells(grid)[::7]:
                walk = drawn_walk(numbers, grid, begin, next(numbers) % 120)
                told = word_of(grid, begin, walk)
                self.assertEqual(told, word_by_hand(grid, begin, walk))
                lengths.add(len(told))
        self.assertTrue(lengths >= {0, 1, 2, 3, 4, 5, 6}, lengths)

    def test_moves_leave_the_word(self):
        numbers = mixed_numbers(43)
        for grid in grids_with_ponds(30):
            for begin in land_cells(grid)[:1]:
                walk = drawn_walk(numbers, grid, begin, 60)
                told = word_of(grid, begin, walk)
                for move in moves_of(grid, begin, walk):
                    self.assertEqual(word_of(grid, begin, after(walk, move)), told)
                for letter in LETTERS:
                    if way_of(grid, begin, letter):
                        longer = after(walk, ("add", 0, letter))
                        self.assertEqual(word_of(grid, begin, longer), told)

    def test_alike_walks_and_no_others_have_one_end_and_one_word(self):
        for grid, longest in ((RING, 9), (["####", "#.##", "####"], 7), (IN_A_ROW, 8),
                              (IN_A_COLUMN, 8), (["###", "###"], 7)):
            for begin in land_cells(grid)[::3]:
                seen = set()
                for group in alike_classes(grid, begin, longest):
                    told = {(way_of(grid, begin, walk)[-1], *word_of(grid, begin, walk)) for walk in group}
                    self.assertEqual(len(told), 1)
                    self.assertFalse(told & seen)
                    seen |= told

    def test_the_walk_back_writes_the_word_undone(self):
        for grid, begin, walk in mixed_walks(30):
            end = way_of(grid, begin, walk)[-1]
            self.assertEqual(
                word_of(grid, end, turned_back(walk)), undone(word_of(grid, begin, walk)),
            )


class TogetherTest(MoorTest):
    def test_none(self):
        self.assertEqual(together([], []), [])
        self.assertEqual(together([1], []), [1])
        self.assertEqual(together([], [1, -2]), [1, -2])

    def test_where_they_meet(self):
        self.assertEqual(together([1], [2]), [1, 2])
        self.assertEqual(together([1], [1]), [1, 1])
        self.assertEqual(together([1], [-1]), [])
        self.assertEqual(together([1, 2], [-2, 1]), [1, 1])
        self.assertEqual(together([1, 2, 3], [-3, -2, 4]), [1, 4])
        self.assertEqual(together([1, 2], [-2, -1, 3]), [3])
        self.assertEqual(together([3, 1, 2], [-2, -1]), [3])
        self.assertEqual(together([1, 2], [-1, -2]), [1, 2, -1, -2])

    def test_all_short_words(self):
        words = list(all_words([1, 2], 3))
        for one in words:
            for other in words:
                self.assertEqual(together(one, other), taken_out(one + other))

    def test_drawn_words(self):
        for one, other in drawn_words(300, 12, 3):
            self.assertEqual(together(one, other), taken_out(one + other))
            self.assertEqual(together(one, undone(one)), [])

    def test_longest(self):
        self.assertEqual(together([1] * 2000, [1] * 2000), [1] * 4000)
        self.assertEqual(together([1, 2] * 1000, [-2, -1] * 1000), [])
        self.assertEqual(together([1] * 2000, [-1] * 1999), [1])
        self.refused(BadWord, together, [1] * 2001, [])
        self.refused(BadWord, together, [], [1] * 2001)

    def test_great_numbers(self):
        far = 10 ** 40
        self.assertEqual(together([1, far], [-far, 2]), [1, 2])

    def test_either_is_no_word(self):
        for name, wrong in wrong_words().items():
            with self.subTest(name):
                self.refused(BadWord, together, wrong, [1])
                self.refused(BadWord, together, [1], wrong)
                self.refused(BadWord, together, wrong, wrong)
                self.refused(BadWord, together, wrong, None)


class UndoneTest(MoorTest):
    def test_some(self):
        self.assertEqual(undone([]), [])
        self.assertEqual(undone([5]), [-5])
        self.assertEqual(undone([1, 2, -3]), [3, -2, -1])
        self.assertEqual(undone([1] * 2000), [-1] * 2000)

    def test_twice_is_the_word(self):
        for word in all_words([1, 2], 4):
            told = undone(word)
            self.assertEqual(told, [-one for one in word][::-1])
            self.assertEqual(undone(told), word)

    def test_no_word(self):
        for name, wrong in wrong_words().items():
            with self.subTest(name):
                self.refused(BadWord, undone, wrong)


class RoundFormTest(MoorTest):
    def test_short(self):
        self.assertEqual(round_form([]), [])
        self.assertEqual(round_form([3]), [3])
        self.assertEqual(round_form([-3]), [-3])
        self.assertEqual(round_form([2, 1]), [1, 2])
        self.assertEqual(round_form([1, 1]), [1, 1])

    def test_opposite_ends_are_taken_out(self):
        self.assertEqual(round_form([1, 2, -1]), [2])
        self.assertEqual(round_form([-1, 2, 2, 1]), [2, 2])
        self.assertEqual(round_form([3, 1, 2, -1, -3]), [2])
        self.assertEqual(round_form([3, 1, 2, 1, -3]), [1, 1, 2])
        # The ends of what is left are no opposites, though the next ones are.
        self.assertEqual(round_form([1, 2, -3, -2]), [-3, -2, 1, 2])

    def test_least_turning(self):
        self.assertEqual(round_form([2, 1, 3, 1]), [1, 2, 1, 3])
        self.assertEqual(round_form([1, 3, 1, 2]), [1, 2, 1, 3])
        self.assertEqual(round_form([1, -2, 1, -3]), [-3, 1, -2, 1])
        self.assertEqual(round_form([1, 1, 1, -2]), [-2, 1, 1, 1])
        self.assertEqual(round_form([10, 9, 2]), [2, 10, 9])

    def test_all_short_words(self):
        for word in all_words([1, 2], 6):
            self.assertEqual(round_form(word), round_form_by_hand(word))

    def test_drawn_words(self):
        for word, other in drawn_words(300, 14, 3):
            told = round_form(word)
            self.assertEqual(told, round_form_by_hand(word))
            self.assertEqual(round_form(told), told)
            self.assertEqual(round_form(together(together(other, word), undone(other))), told)

    def test_longest(self):
        self.assertEqual(round_form([2] + [1] * 1999), [1] * 1999 + [2])
        self.assertEqual(round_form([1, 2] * 1000), [1, 2] * 1000)
        self.assertEqual(round_form([1] * 999 + [2] + [-1] * 1000), [-1, 2])
        self.assertEqual(round_form([1] * 2000), [1] * 2000)

    def test_no_word(self):
        for name, wrong in wrong_words().items():
            with self.subTest(name):
                self.refused(BadWord, round_form, wrong)


def turns_by_hand(grid, begin, walk):
    """How often a round goes around each pond, by a cut that goes from it straight down."""
    told = []
    for row, column in pond_firsts(grid):
        while row < len(grid) and grid[row][column] == ".":
            row += 1
        turns = 0
        for (here_row, here_column), letter in zip(way_of(grid, begin, walk), walk):
            if here_row >= row and letter == "W" and here_column == column + 1:
                turns += 1
            elif here_row >= row and letter == "E" and here_column == column:
                turns -= 1
        told.append(turns)
    return told


class TurnsAboutTest(MoorTest):
    def test_no_pond_and_no_step(self):
        self.assertEqual(turns_about(["#"], (0, 0), ""), [])
        self.assertEqual(turns_about(["##", "##"], (0, 0), "ESWN"), [])
        self.assertEqual(turns_about(IN_A_ROW, (0, 0), ""), [0, 0])
        self.assertEqual(turns_about(IN_A_ROW, (0, 0), "EEWW"), [0, 0])

    def test_both_ways_and_more_than_once(self):
        self.assertEqual(turns_about(RING, (0, 0), "EESSWWNN"), [1])
        self.assertEqual(turns_about(RING, (2, 2), "NNWWSSEE"), [-1])
        self.assertEqual(turns_about(RING, (1, 0), "NEESSWWN" * 25), [25])
        self.assertEqual(turns_about(IN_A_ROW, (0, 2), "EESSWWNNWWSSEENN"), [-1, 1])
        self.assertEqual(turns_about(IN_A_COLUMN, (0, 0), "EESSWWNN"), [1, 0])

    def test_a_number_and_its_opposite_that_stand_apart(self):
        one, other = "EESSWWNN", "WWSSEENN"
        walk = one + other + turned_back(one) + turned_back(other)
        self.assertEqual(word_of(IN_A_ROW, (0, 2), walk), [2, -1, -2, 1])
        self.assertEqual(turns_about(IN_A_ROW, (0, 2), walk), [0, 0])

    def test_the_ponds_within(self):
        grid = rings()
        outermost = "E" * 15 + "S" * 15 + "W" * 15 + "N" * 15
        inner = "E" * 7 + "S" * 7 + "W" * 7 + "N" * 7
        self.assertEqual(turns_about(grid, (0, 0), outermost), [1, 1, 1, 1])
        self.assertEqual(turns_about(grid, (0, 0), turned_back(outermost)), [-1, -1, -1, -1])
        self.assertEqual(turns_about(grid, (4, 4), inner), [0, 0, 1, 1])

    def test_drawn_rounds(self):
        numbers = mixed_numbers(47)
        seen = set()
        for grid in grids_with_ponds(60):
            for begin in land_cells(grid)[::7]:
                walk = drawn_round(numbers, grid, begin, next(numbers) % 100)
                told = turns_about(grid, begin, walk)
                self.assertEqual(told, turns_by_hand(grid, begin, walk))
                seen |= set(told)
        self.assertTrue(seen >= {-2, -1, 0, 1, 2}, seen)

    def test_no_round(self):
        self.refused(NotRound, turns_about, ["##"], (0, 0), "E")
        self.refused(NotRound, turns_about, RING, (0, 0), "EESSWWN")
        self.refused(NotRound, turns_about, RING, (0, 0), "EESSWWNNE")


class AllWalksTest(MoorTest):
    def test_wrong_grids(self):
        for name, wrong in wrong_grids().items():
            with self.subTest(name):
                for function in (word_of, turns_about):
                    self.refused(BadGrid, function, wrong, (0, 0), "EW")
                    self.refused(BadGrid, function, wrong, None, None)

    def test_wrong_begins(self):
        for name, (begin, kind) in wrong_begins().items():
            with self.subTest(name):
                for function in (word_of, turns_about):
                    for walk in ("EW", "", "E", "x", None):
                        self.refused(getattr(errors, kind), function, BENT, begin, walk)

    def test_wrong_walks(self):
        for name, walk in wrong_letters().items():
            with self.subTest(name):
                for function in (word_of, turns_about):
                    self.refused(BadWalk, function, BENT, (0, 0), walk)

    def test_walks_off_the_land(self):
        for walk in ("N", "W", "EE", "NS", "EEW", "SESN"):
            for function in (word_of, turns_about):
                self.refused(BadWalk, function, BENT, (0, 0), walk)

    def test_nothing_is_changed_or_kept(self):
        numbers = mixed_numbers(53)
        for grid in POND_GRIDS:
            walk = drawn_round(numbers, grid, (0, 0), 40)
            self.tells_new(word_of, list(grid), (0, 0), walk)
            self.tells_new(turns_about, list(grid), (0, 0), walk)
        for one, other in drawn_words(20, 6, 2):
            self.tells_new(together, one, other)
            self.tells_new(undone, one)
            self.tells_new(round_form, one)
        for word in ([], [1], [1, 2], [2, 1], [1, 2, -1]):
            self.tells_new(together, word, [])
            self.tells_new(together, [], word)
            self.tells_new(round_form, word)

    def test_a_word_with_itself(self):
        word = [1, 2]
        self.assertEqual(together(word, word), [1, 2, 1, 2])
        self.assertEqual(word, [1, 2])

    def test_a_grid_changed_in_between_is_told_anew(self):
        grid = list(RING)
        self.assertEqual(word_of(grid, (0, 1), "E"), [1])
        grid[1] = "###"
        self.assertEqual(word_of(grid, (0, 1), "E"), [])
        self.assertEqual(turns_about(grid, (0, 1), "EW"), [])


if __name__ == "__main__":
    unittest.main()
