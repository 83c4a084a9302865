"""Coverings of a grid: sheets, where walks lead on them, and coverings that part two words."""

from moorwalk.checks import check_grid, check_land, is_number
from moorwalk.counting import blocks, joins
from moorwalk.errors import BadCover, BadWord, OneWord
from moorwalk.gates import above, gates, walks_within
from moorwalk.grids import land
from moorwalk.pieces import pieces, ponds
from moorwalk.walks import OPPOSITES, stepped
from moorwalk.words import check_word, cuts, word_of, written

MOST_SHEETS = 4001
MOST_PONDS = 64


def lifted(grid, sheets, turnings, begin, sheet, walk):
    """Tell the sheet on which the walk ends if it begins on this one."""
    check_cover(grid, sheets, turnings)
    check_land(grid, begin)
    check_sheet(sheets, sheet)
    leads = leads_of(turnings)
    told = sheet
    for number in word_of(grid, begin, walk):
        told = leads[number][told]
    return told


def check_cover(grid, sheets, turnings):
    """Refuse what is no grid, then what is no covering of it."""
    check_grid(grid)
    if not is_number(sheets) or not 1 <= sheets <= MOST_SHEETS:
        raise BadCover("a covering has from 1 to 4001 sheets")
    if not isinstance(turnings, list) or len(turnings) != len(ponds(grid)):
        raise BadCover("a covering has a list of turnings, one for each pond")
    for turning in turnings:
        check_turning(sheets, turning)


def check_turning(sheets, turning):
    """Refuse what is no list of all sheets."""
    if not isinstance(turning, list) or len(turning) != sheets:
        raise BadCover("a turning is a list of as many sheets as there are")
    if not all([is_number(sheet) for sheet in turning]):
        raise BadCover("the sheets of a turning are whole numbers")
    if sorted(turning) != list(range(sheets)):
        raise BadCover("each sheet stands in a turning once")


def check_sheet(sheets, sheet):
    """Refuse what is none of the sheets."""
    if not is_number(sheet) or not 0 <= sheet < sheets:
        raise BadCover("the covering has no such sheet")


def leads_of(turnings):
    """Tell for each number that a step can write to which sheet it leads from each sheet."""
    told = {}
    for count, turning in enumerate(turnings):
        told[count + 1] = turning
        told[-count - 1] = turned_back(turning)
    return told


def turned_back(turning):
    """Tell the turning that leads back."""
    told = [0] * len(turning)
    for sheet, led in enumerate(turning):
        told[led] = sheet
    return told


def sheets_joined(grid, sheets, turnings, cell):
    """Tell the sheets in parts, those together that rounds from the cell lead to one another."""
    check_cover(grid, sheets, turnings)
    check_land(grid, cell)
    return Cover(grid, sheets, turnings).parts(cell)


def covered(grid, sheets, turnings):
    """Tell how many cells, joins, blocks and pieces the land of the covering has."""
    check_cover(grid, sheets, turnings)
    cover = Cover(grid, sheets, turnings)
    many = 0
    for cells in pieces(grid):
        many += len(cover.parts(cells[0]))
    # Around a block the word is empty, so each sheet has all of its joins and blocks.
    return (sheets * len(land(grid)), sheets * joins(grid), sheets * blocks(grid), many)


class Cover:
    """A covering, with what is asked of it for each cell anew."""

    def __init__(self, grid, sheets, turnings):
        self.grid = grid
        self.sheets = sheets
        self.leads = leads_of(turnings)
        self.marks = cuts(grid)
        self.shut = gates(grid)
        self.beside_gates = [above(pond) for pond in ponds(grid)]

    def led(self, places, here, there):
        """Tell to which sheets the step from here to there leads from these."""
        for number in written(self.marks, here, there):
            leading = self.leads[number]
            places = [leading[sheet] for sheet in places]
        return places

    def reached(self, cell):
        """Tell for each cell of the piece where a walk there, through no gate, leads the sheets."""
        told = {cell: list(range(self.sheets))}
        walks = walks_within(self.grid, self.shut, cell)
        for there, walk in walks.items():
            if there != cell:
                here = stepped(there, OPPOSITES[walk[-1]])
                told[there] = self.led(told[here], here, there)
        return told

    def rounds(self, cell):
        """Tell where rounds through one gate each lead the sheets; all others come of these."""
        places = self.reached(cell)
        told = []
        for here in self.beside_gates:
            if here in places:
                there = stepped(here, "E")
                home = turned_back(places[there])
                told.append([home[sheet] for sheet in self.led(places[here], here, there)])
        return told

    def parts(self, cell):
        """Tell the sheets in parts, those together that rounds from the cell join."""
        rounds = self.rounds(cell)
        done = set()
        told = []
        for first in range(self.sheets):
            if first not in done:
                part = joined(rounds, first)
                told.append(part)
                for sheet in part:
                    done.add(sheet)
        return told


def joined(rounds, first):
    """Tell, rising, all sheets that rounds lead to from the first one."""
    seen = set()
    seen.add(first)
    waiting = [first]
    while waiting:
        sheet = waiting.pop()
        for leading in rounds:
            led = leading[sheet]
            if led not in seen:
                seen.add(led)
                waiting.append(led)
    return sorted(seen)


def parting(many, one, other):
    """Tell sheets and turnings in which the two words lead sheet 0 to unlike sheets."""
    check_words(many, one, other)
    if one == other:
        raise OneWord("the two words are one word")
    leads = {}
    sheets = lay(leads, one, 1)
    sheets = lay(leads, other, sheets)
    return (sheets, [filled(leads, count + 1, sheets) for count in range(many)])


def check_words(many, one, other):
    """Refuse what is no count of ponds, then what are no words of their numbers."""
    if not is_number(many) or not 0 <= many <= MOST_PONDS:
        raise BadCover("a count of ponds is a whole number from 0 to 64")
    for word in (one, other):
        check_word(word)
        if not all([-many <= number <= many for number in word]):
            raise BadWord("the word has numbers of other ponds")


def lay(leads, word, sheets):
    """Put in what the word lacks to lead from sheet 0, and tell how many sheets there are then."""
    sheet = 0
    for number in word:
        # As the word has no opposites side by side, it never leads back to where it
        # came from: it goes along an earlier word, and then to new sheets alone.
        if (sheet, number) not in leads:
            leads[(sheet, number)] = sheets
            leads[(sheets, -number)] = sheet
            sheets += 1
        sheet = leads[(sheet, number)]
    return sheets


def filled(leads, number, sheets):
    """Tell the turning that leads as told, and from each other sheet to one that is free."""
    free = [sheet for sheet in range(sheets) if (sheet, -number) not in leads]
    told = []
    for sheet in range(sheets):
        told.append(leads[(sheet, number)] if (sheet, number) in leads else free.pop())
    return told
