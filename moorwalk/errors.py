"""The errors by which the program refuses what is handed in."""


class MoorError(ValueError):
    """What all refusals have in common."""


class BadGrid(MoorError):
    """It is no grid."""


class BadCell(MoorError):
    """It is no cell of the grid."""


class NoLand(MoorError):
    """The cell is water where land is due."""


class BadSeam(MoorError):
    """The two grids cannot be put beside one another."""


class BadWalk(MoorError):
    """It is no walk on the land of the grid."""


class BadMove(MoorError):
    """It is no move that can be done."""


class BadWord(MoorError):
    """It is no word."""


class BadCover(MoorError):
    """It is no covering, no sheet of one, or no count of ponds."""


class Ends(MoorError):
    """The two walks end at unlike cells."""


class Apart(MoorError):
    """The walks are not alike, or their begins are not of one piece."""


class OneWord(MoorError):
    """The two words are one word."""


class NotRound(MoorError):
    """The walk does not end at its begin."""
