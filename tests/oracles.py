"""Slow and plain readings of the document, to compare the program with."""

from shapes import LETTERS, OPPOSITE, is_land_of, way_of

NEAR = [(down, right) for down in (-1, 0, 1) for right in (-1, 0, 1) if (down, right) != (0, 0)]


def after(walk, move):
    """The text that the move makes of the walk, or None, the land left aside."""
    word, place, letter = move
    two = walk[place:place + 2] if place >= 0 else ""
    if word == "add":
        if not 0 <= place <= len(walk) or len(walk) > 198:
            return None
        return walk[:place] + letter + OPPOSITE[letter] + walk[place:]
    if len(two) < 2:
        return None
    if word == "drop":
        return walk[:place] + walk[place + 2:] if two in ("NS", "SN", "EW", "WE") else None
    if (two[0] in "NS") == (two[1] in "NS"):
        return None
    return walk[:place] + two[::-1] + walk[place + 2:]


def after_all(grid, begin, walk, moves):
    """All walks on the way when the moves are done one after the other, or None."""
    walks = [walk]
    for move in moves:
        walk = after(walk, move)
        if walk is None or way_of(grid, begin, walk) is None:
            return None
        walks.append(walk)
    return walks


def turned_back(walk):
    """The walk back."""
    return "".join(OPPOSITE[letter] for letter in walk[::-1])


def pond_firsts(grid):
    """The first cell of each pond, in their order."""
    cells = [(row, column) for row in range(len(grid)) for column in range(len(grid[0]))]
    left = [cell for cell in cells if not is_land_of(grid, cell)]
    firsts = []
    while left:
        first, flood = left[0], [left[0]]
        for row, column in flood:
            for down, right in NEAR:
                other = (row + down, column + right)
                if other in left and other not in flood:
                    flood.append(other)
        left = [cell for cell in left if cell not in flood]
        rows, columns = {row for row, _ in flood}, {column for _, column in flood}
        if not (rows & {0, len(grid) - 1} or columns & {0, len(grid[0]) - 1}):
            firsts.append(first)
    return firsts


def taken_out(numbers):
    """The numbers with those next to their opposites taken out, one pair after the other."""
    left = list(numbers)
    place = 0
    while place < len(left) - 1:
        if left[place] == -left[place + 1]:
            left = left[:place] + left[place + 2:]
            place = 0
        else:
            place += 1
    return left


def writing(firsts, cell, letter):
    """What a step from this cell writes."""
    row, column = cell
    if letter == "E":
        return [k for k, one in enumerate(firsts, 1) if one[1] == column and one[0] > row]
    if letter == "W":
        return [-k for k in writing(firsts, (row, column - 1), "E")][::-1]
    return []


def word_by_hand(grid, begin, walk, firsts=None):
    """The word of the walk."""
    firsts = pond_firsts(grid) if firsts is None else firsts
    numbers = []
    for cell, letter in zip(way_of(grid, begin, walk), walk):
        numbers.extend(writing(firsts, cell, letter))
    return taken_out(numbers)


def round_form_by_hand(word):
    """The round form of the word."""
    left = list(word)
    while len(left) >= 2 and left[-1] == -left[0]:
        left = left[1:-1]
    return min([left[at:] + left[:at] for at in range(len(left))], default=[])


def all_walks(grid, begin, longest):
    """All walks from the begin of at most so many steps."""
    walks, last = [""], [("", begin)]
    for _ in range(longest):
        last = [
            (walk + letter, way_of(grid, cell, letter)[1])
            for walk, cell in last for letter in LETTERS if way_of(grid, cell, letter)
        ]
        walks.extend(walk for walk, _ in last)
    return walks


def alike_classes(grid, begin, longest):
    """All these walks in lists of those that moves lead to one another."""
    walks = all_walks(grid, begin, longest)
    known = set(walks)
    seen = set()
    told = []
    for first in walks:
        if first in seen:
            continue
        seen.add(first)
        group = [first]
        for walk in group:
            for place in range(len(walk) + 1):
                for move in [("turn", place, ""), ("drop", place, "")] + [
                    ("add", place, letter) for letter in LETTERS
                ]:
                    other = after(walk, move)
                    if other in known and other not in seen:
                        seen.add(other)
                        group.append(other)
        told.append(group)
    return told


def can_turn(grid, begin, walk):
    """Whether a step E or W with a step N or S right behind it can be turned."""
    return any(
        walk[place] in "EW" and walk[place + 1] in "NS"
        and way_of(grid, begin, after(walk, ("turn", place, ""))) is not None
        for place in range(len(walk) - 1)
    )


def least_steps(grid, begin, walk):
    """How many steps an alike walk needs at least, by a search over cells and words."""
    firsts = pond_firsts(grid)
    aim = (way_of(grid, begin, walk)[-1], tuple(word_by_hand(grid, begin, walk, firsts)))
    seen = {(begin, ())}
    last, many = [(begin, ())], 0
    while aim not in seen:
        many += 1
        later = []
        for cell, word in last:
            for letter in LETTERS:
                step = way_of(grid, cell, letter)
                if step:
                    state = (step[1], tuple(taken_out(list(word) + writing(firsts, cell, letter))))
                    if state not in seen:
                        seen.add(state)
                        later.append(state)
        last = later
    return many


def led_sheet(turnings, word, sheet):
    """The sheet that the word leads to."""
    for number in word:
        if number > 0:
            sheet = turnings[number - 1][sheet]
        else:
            sheet = turnings[-number - 1].index(sheet)
    return sheet


def cover_graph(grid, sheets, turnings):
    """For each cell on a sheet those beside it in the covering, by the letter of the step."""
    firsts = pond_firsts(grid)
    graph = {}
    for row in range(len(grid)):
        for column in range(len(grid[0])):
            if is_land_of(grid, (row, column)):
                for sheet in range(sheets):
                    graph[((row, column), sheet)] = {}
    for cell, sheet in graph:
        for letter in LETTERS:
            step = way_of(grid, cell, letter)
            if step:
                word = writing(firsts, cell, letter)
                graph[(cell, sheet)][letter] = (step[1], led_sheet(turnings, word, sheet))
    return graph


def flooded(graph, first):
    """All that is joined to the first one."""
    seen, waiting = {first}, [first]
    while waiting:
        for other in graph[waiting.pop()].values():
            if other not in seen:
                seen.add(other)
                waiting.append(other)
    return seen
