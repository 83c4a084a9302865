"""Grids, and things that are none, for the tests."""

import itertools


def grids_of(rows, columns):
    """All grids of this size."""
    texts = ["".join(signs) for signs in itertools.product("#.", repeat=columns)]
    for chosen in itertools.product(texts, repeat=rows):
        yield list(chosen)


def small_grids():
    """All grids of some small sizes, one row and one column among them."""
    for rows, columns in ((1, 1), (1, 4), (4, 1), (2, 3), (3, 2), (3, 3), (3, 4), (4, 3)):
        yield from grids_of(rows, columns)


def mixed_numbers(state):
    """Numbers without an end, the same ones each time for one state."""
    while True:
        state = (state * 6364136223846793005 + 1442695040888963407) & (2 ** 64 - 1)
        yield state >> 33


def mixed_grids(many):
    """As many grids of changing sizes up to 16 by 16, the same ones each time."""
    numbers = mixed_numbers(7)
    for at in range(many):
        drawn = list(itertools.islice(numbers, 3 + 256))
        rows = 16 if at < 4 else 1 + drawn[0] % 16
        columns = 16 if at < 4 else 1 + drawn[1] % 16
        dense = 2 + drawn[2] % 7
        signs = ["#" if one % 10 < dense else "." for one in drawn[3:]]
        yield ["".join(signs[row * 16:row * 16 + columns]) for row in range(rows)]


def rings():
    """A grid of 16 by 16 of four rings of land within one another, a pond in each."""
    grid = []
    for row in range(16):
        depths = [min(row, column, 15 - row, 15 - column) for column in range(16)]
        grid.append("".join("#" if depth % 2 == 0 else "." for depth in depths))
    return grid


LETTERS = {"N": (-1, 0), "E": (0, 1), "S": (1, 0), "W": (0, -1)}
OPPOSITE = {"N": "S", "E": "W", "S": "N", "W": "E"}


def is_land_of(grid, cell):
    """Whether it is a land cell, found without the program."""
    row, column = cell
    return 0 <= row < len(grid) and 0 <= column < len(grid[0]) and grid[row][column] == "#"


def way_of(grid, begin, walk):
    """The cells that a walk comes to, or None if it leads off the land."""
    way = [begin]
    for letter in walk:
        down, right = LETTERS[letter]
        way.append((way[-1][0] + down, way[-1][1] + right))
    return way if all(is_land_of(grid, cell) for cell in way) else None


def mixed_walks(many, longest=200):
    """As many triples of a grid, a begin and a walk on it, the same ones each time."""
    numbers = mixed_numbers(11)
    for at, grid in enumerate(mixed_grids(many)):
        cells = [
            (row, column) for row in range(len(grid)) for column in range(len(grid[0]))
            if grid[row][column] == "#"
        ]
        if not cells:
            continue
        begin = cells[next(numbers) % len(cells)]
        length = longest if at % 3 == 0 else next(numbers) % (longest + 1)
        walk = ""
        cell = begin
        while len(walk) < length:
            free = [one for one in LETTERS if way_of(grid, cell, one)]
            if not free:
                break
            walk += free[next(numbers) % len(free)]
            cell = way_of(grid, cell, walk[-1])[1]
        yield grid, begin, walk


# A pond; one with a cell that is not below its first one; two in a row; two in a column;
# a pond in a piece in a pond; ponds around corners; a pond with land all about.
POND_GRIDS = [
    ["###", "#.#", "###"],
    ["#####", "##..#", "#...#", "#####"],
    ["#####", "#.#.#", "#####"],
    ["###", "#.#", "###", "#.#", "###"],
    ["#####", "#...#", "#.#.#", "#...#", "#####"],
    ["#######", "#.....#", "#.###.#", "#.#.#.#", "#.###.#", "#.....#", "#######"],
    ["######", "#.####", "##.#.#", "######", "#..#.#", "######"],
    ["######", "#....#", "#.##.#", "#.#..#", "######", "##.###", "######"],
    ["#####", "#####", "##.##", "#####", "#####"],
    ["###.###", "#.#.#.#", "###.###", "..#....", "#####..", "#.#.#..", "#####.."],
]


def many_ponds():
    """A grid of 16 by 16 with 49 ponds, as many as can be."""
    return ["#" * 16 if row % 2 == 0 or row == 15 else "#." * 7 + "##" for row in range(16)]


def nearly_all_land(many):
    """As many grids of changing sizes up to 9 by 9, most of it land."""
    numbers = mixed_numbers(23)
    for _ in range(many):
        rows, columns = 3 + next(numbers) % 7, 3 + next(numbers) % 7
        dense = 6 + next(numbers) % 3
        yield [
            "".join("#" if next(numbers) % 10 < dense else "." for _ in range(columns))
            for _ in range(rows)
        ]


def grids_with_ponds(many):
    """The grids above, and as many mixed ones."""
    yield from POND_GRIDS
    yield rings()
    yield many_ponds()
    yield from nearly_all_land(many)


def land_cells(grid):
    """The land cells, found without the program."""
    return [
        (row, column) for row in range(len(grid)) for column in range(len(grid[0]))
        if grid[row][column] == "#"
    ]


def drawn_walk(numbers, grid, begin, length):
    """A walk of so many steps, or of none if there is no way from the begin."""
    walk, cell = "", begin
    while len(walk) < length:
        free = [one for one in LETTERS if way_of(grid, cell, one)]
        # Going straight back is drawn less often, so that the walk comes farther.
        onward = [one for one in free if walk and one != OPPOSITE[walk[-1]]]
        if onward and next(numbers) % 8:
            free = onward
        if not free:
            break
        walk += free[next(numbers) % len(free)]
        cell = way_of(grid, cell, walk[-1])[1]
    return walk


def way_to(grid, begin, end):
    """A shortest walk between two cells of one piece, or None."""
    ways, last = {begin: ""}, [begin]
    while last and end not in ways:
        later = []
        for cell in last:
            for letter in LETTERS:
                step = way_of(grid, cell, letter)
                if step and step[1] not in ways:
                    ways[step[1]] = ways[cell] + letter
                    later.append(step[1])
        last = later
    return ways.get(end)


def drawn_round(numbers, grid, begin, length):
    """A walk of so many steps and a shortest way home."""
    walk = drawn_walk(numbers, grid, begin, length)
    return walk + way_to(grid, way_of(grid, begin, walk)[-1], begin)


class Odd:
    """A thing of no known kind."""


def wrong_grids():
    """Things that are no grids, by a name each."""
    inside_itself = []
    inside_itself.append(inside_itself)
    return {
        "None": None,
        "True": True,
        "number": 3,
        "text": "#.",
        "bytes": b"#.",
        "tuple": ("#.", ".#"),
        "dict": {"#": "."},
        "set": {"#."},
        "object": Odd(),
        "kind": list,
        "no rows": [],
        "17 rows": ["#"] * 17,
        "far too many rows": ["#"] * 400,
        "empty row": [""],
        "empty rows": ["", ""],
        "empty row at last": ["#", ""],
        "17 wide": ["#" * 17],
        "17 wide, two rows": ["." * 17, "#" * 17],
        "longer below": ["##", "###"],
        "shorter below": ["##", "##", "#"],
        "longer in the middle": ["##", "###", "##"],
        "letter": ["#x"],
        "blank": ["# "],
        "line feed": ["#\n"],
        "letter below": ["##", "#o"],
        "digit": ["0"],
        "row list of signs": [["#", "."]],
        "row None": [None],
        "row number": [1],
        "row True": [True],
        "row bytes": [b"#."],
        "row bytes below": ["#.", b"#."],
        "row list": ["#", ["#"]],
        "row tuple": [("#", ".")],
        "row dict": [{"#": 1}],
        "row object": [Odd()],
        "itself": inside_itself,
    }


def wrong_cells():
    """Things that are no cells of a grid of two rows and three columns."""
    return {
        "None": None,
        "True": True,
        "number": 0,
        "text": "00",
        "bytes": b"00",
        "list": [0, 0],
        "dict": {0: 0, 1: 1},
        "set": {0, 1},
        "object": Odd(),
        "empty": (),
        "one number": (0,),
        "three numbers": (0, 0, 0),
        "True as the row": (True, 0),
        "False as the column": (0, False),
        "both truths": (False, False),
        "texts": ("0", "0"),
        "text as the column": (0, "0"),
        "None as the row": (None, 0),
        "list as the row": ([0], 0),
        "pair as the column": (0, (0,)),
        "object as the column": (0, Odd()),
        "above": (-1, 0),
        "left": (0, -1),
        "above and left": (-1, -1),
        "below": (2, 0),
        "right": (0, 3),
        "column and row exchanged": (2, 1),
        "far": (10 ** 50, 0),
        "far below 0": (0, -10 ** 50),
    }


def wrong_letters():
    """Things that are no texts of 0 to 200 letters of steps."""
    return {
        "None": None,
        "True": True,
        "False": False,
        "number": 0,
        "bytes": b"",
        "bytes of letters": b"NESW",
        "list": [],
        "list of letters": ["N", "S"],
        "tuple": ("E", "W"),
        "empty tuple": (),
        "dict": {"E": "W"},
        "set": {"E"},
        "object": Odd(),
        "kind": str,
        "lower": "ew",
        "lower among others": "EWe",
        "another letter": "X",
        "another letter at last": "EWEWA",
        "another letter first": "OEW",
        "blank": "E W",
        "blank alone": " ",
        "line feed": "EW\n",
        "digit": "1",
        "signs of a grid": "#.",
        "201 steps": "EW" * 100 + "E",
        "202 steps": "EW" * 101,
        "far too many steps": "EW" * 5000,
        "201 wrong letters": "x" * 201,
    }


def wrong_begins():
    """Cells of the grid ["##.", "###"] and things that are none, with the refusal's name."""
    wrong = {name: (cell, "BadCell") for name, cell in wrong_cells().items()}
    wrong["water"] = ((0, 2), "NoLand")
    return wrong


def wrong_moves():
    """Things that are no moves at all, whatever the walk, if it has ten steps or more."""
    wrong = {
        "None": None,
        "True": True,
        "number": 0,
        "text": "turn",
        "text of three": "abc",
        "list": ["turn", 0, ""],
        "list of an add": ["add", 0, "E"],
        "dict": {"turn": 0, "drop": 1, "add": 2},
        "set": {"turn"},
        "object": Odd(),
        "empty": (),
        "word alone": ("turn",),
        "pair": ("drop", 0),
        "four": ("drop", 0, "", ""),
        "four of an add": ("add", 0, "E", "W"),
        "back to front": ("", 0, "drop"),
        "place first": (0, "drop", ""),
    }
    for word in ("Turn", "TURN", "turns", "", "push", "dro", "add ", None, 0, True, b"drop", ["add"], ("turn",)):
        wrong[f"word {word!r}"] = (word, 0, "")
        wrong[f"word {word!r} with a letter"] = (word, 0, "E")
    for word, letter in (("turn", ""), ("drop", ""), ("add", "E")):
        for place in (True, False, None, "0", "", b"0", [0], (0,), Odd(), {0: 0}):
            wrong[f"{word} at {place!r}"] = (word, place, letter)
        for place in (-1, -2, 201, 10 ** 60, -10 ** 60):
            wrong[f"{word} at the place {place}"] = (word, place, letter)
    for letter in ("", "e", "X", "EW", "NESW", " ", None, 0, True, b"E", ["E"], ("E",), Odd()):
        wrong[f"add of {letter!r}"] = ("add", 0, letter)
    for letter in ("E", "N", " ", "EW", "x", None, 0, False, b"", [], ()):
        for word in ("turn", "drop"):
            wrong[f"{word} with {letter!r}"] = (word, 0, letter)
    return wrong


def wrong_words():
    """Things that are no words."""
    return {
        "None": None,
        "True": True,
        "number": 1,
        "text": "1",
        "bytes": b"\x01",
        "tuple": (1, 2),
        "empty tuple": (),
        "dict": {1: 2},
        "empty dict": {},
        "set": {1},
        "object": Odd(),
        "kind": list,
        "0": [0],
        "0 at last": [1, 2, 0],
        "0 first": [0, 1],
        "True in it": [True],
        "False in it": [1, False],
        "True at last": [1, 1, True],
        "True next to 1 below 0": [-1, True],
        "text in it": ["1"],
        "None in it": [1, None],
        "bytes in it": [b"1"],
        "list in it": [[1]],
        "tuple in it": [1, (2,)],
        "object in it": [Odd()],
        "opposites": [1, -1],
        "opposites the other way": [-2, 2],
        "opposites at last": [1, 1, 2, -2],
        "opposites first": [3, -3, 1],
        "opposites in the middle": [1, 2, -2, 1],
        "2001 numbers": [1] * 2001,
        "far too many numbers": [1, 2] * 5000,
    }


def wrong_counts():
    """Things that are no counts of ponds."""
    return {
        "None": None,
        "True": True,
        "False": False,
        "text": "1",
        "bytes": b"1",
        "list": [1],
        "tuple": (1,),
        "dict": {},
        "object": Odd(),
        "below 0": -1,
        "65": 65,
        "far": 10 ** 40,
        "far below 0": -10 ** 40,
    }


def wrong_sheets():
    """Things that are no counts of sheets."""
    wrong = wrong_counts()
    wrong["65"] = 4002
    wrong["0"] = 0
    return wrong


def wrong_turnings():
    """Things that are no turnings of three sheets for one pond."""
    inside_itself = []
    inside_itself.append(inside_itself)
    wrong = {
        "None": None,
        "True": True,
        "number": 0,
        "text": "012",
        "tuple": ([0, 1, 2],),
        "dict": {0: [0, 1, 2]},
        "set": {0, 1, 2},
        "object": Odd(),
        "none": [],
        "two": [[0, 1, 2], [0, 1, 2]],
        "sheets alone": [0, 1, 2],
        "itself": inside_itself,
    }
    for turning in (
        None, True, 0, "012", b"012", (0, 1, 2), {0: 0, 1: 1, 2: 2}, {0, 1, 2}, Odd(),
        [], [0], [0, 1], [0, 1, 2, 3], [0, 1, 2, 0], [0, 0, 1], [0, 1, 1], [2, 2, 2], [1, 2, 3],
        [-1, 0, 1], [0, 1, -1], [0, 1, 3], [0, 1, 10 ** 30], [False, 1, 2], [0, True, 2],
        [True, False, 2], ["0", "1", "2"], [0, 1, "2"], [0, 1, None], [0, 1, [2]], [0, 1, (2,)],
        [0, 1, b"2"], [0, 1, Odd()], [[0, 1, 2]],
    ):
        wrong[f"turning {turning!r}"] = [turning]
    return wrong


def wrong_sheet():
    """Things that are none of three sheets."""
    return {
        "None": None, "True": True, "False": False, "text": "0", "bytes": b"0", "list": [0],
        "tuple": (0,), "dict": {}, "object": Odd(), "below": -1, "behind": 3, "far": 10 ** 30,
    }
