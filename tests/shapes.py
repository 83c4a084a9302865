"""Grids, and things that are none, for the tests."""

import itertools


def grids_of(rows, columns):
    """All grids of this size."""
    texts = ["".join(signs) for signs in itertools.product("#.", repeat=columns)]
    for chosen in itertools.product(texts, repeat=rows):
        yield list(chosen)


def small_grids():
    """All grids of some small sizes, one row and one column among them."""
    for rows, columns in ((1, 1), (1, 4), (4, 1), (2, 3), (3, 2), (3, 3), (3, 4), (4, 3)):
        yield from grids_of(rows, columns)


def mixed_grids(many):
    """As many grids of changing sizes up to 16 by 16, the same ones each time."""
    state = 7
    for at in range(many):
        drawn = []
        for _ in range(3 + 256):
            state = (state * 6364136223846793005 + 1442695040888963407) & (2 ** 64 - 1)
            drawn.append(state >> 33)
        rows = 16 if at < 4 else 1 + drawn[0] % 16
        columns = 16 if at < 4 else 1 + drawn[1] % 16
        dense = 2 + drawn[2] % 7
        signs = ["#" if one % 10 < dense else "." for one in drawn[3:]]
        yield ["".join(signs[row * 16:row * 16 + columns]) for row in range(rows)]


class Odd:
    """A thing of no known kind."""


def wrong_grids():
    """Things that are no grids, by a name each."""
    inside_itself = []
    inside_itself.append(inside_itself)
    return {
        "None": None,
        "True": True,
        "number": 3,
        "text": "#.",
        "bytes": b"#.",
        "tuple": ("#.", ".#"),
        "dict": {"#": "."},
        "set": {"#."},
        "object": Odd(),
        "kind": list,
        "no rows": [],
        "17 rows": ["#"] * 17,
        "far too many rows": ["#"] * 400,
        "empty row": [""],
        "empty rows": ["", ""],
        "empty row at last": ["#", ""],
        "17 wide": ["#" * 17],
        "17 wide, two rows": ["." * 17, "#" * 17],
        "longer below": ["##", "###"],
        "shorter below": ["##", "##", "#"],
        "longer in the middle": ["##", "###", "##"],
        "letter": ["#x"],
        "blank": ["# "],
        "line feed": ["#\n"],
        "letter below": ["##", "#o"],
        "digit": ["0"],
        "row list of signs": [["#", "."]],
        "row None": [None],
        "row number": [1],
        "row True": [True],
        "row bytes": [b"#."],
        "row bytes below": ["#.", b"#."],
        "row list": ["#", ["#"]],
        "row tuple": [("#", ".")],
        "row dict": [{"#": 1}],
        "row object": [Odd()],
        "itself": inside_itself,
    }


def wrong_cells():
    """Things that are no cells of a grid of two rows and three columns."""
    return {
        "None": None,
        "True": True,
        "number": 0,
        "text": "00",
        "bytes": b"00",
        "list": [0, 0],
        "dict": {0: 0, 1: 1},
        "set": {0, 1},
        "object": Odd(),
        "empty": (),
        "one number": (0,),
        "three numbers": (0, 0, 0),
        "True as the row": (True, 0),
        "False as the column": (0, False),
        "both truths": (False, False),
        "texts": ("0", "0"),
        "text as the column": (0, "0"),
        "None as the row": (None, 0),
        "list as the row": ([0], 0),
        "pair as the column": (0, (0,)),
        "object as the column": (0, Odd()),
        "above": (-1, 0),
        "left": (0, -1),
        "above and left": (-1, -1),
        "below": (2, 0),
        "right": (0, 3),
        "column and row exchanged": (2, 1),
        "far": (10 ** 50, 0),
        "far below 0": (0, -10 ** 50),
    }
