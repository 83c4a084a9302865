"""Words of walks, of which cuts of ponds they cross, and how words go together."""

from moorwalk.checks import is_number
from moorwalk.errors import BadWord
from moorwalk.pieces import ponds
from moorwalk.walks import cells_of, check_round

MOST_NUMBERS = 2000


def word_of(grid, begin, walk):
    """Tell the word of the walk."""
    cells = cells_of(grid, begin, walk)
    return word_along(cuts(grid), cells)


def cuts(grid):
    """Tell for the cells left of a cut the numbers that a step E out of them writes."""
    told = {}
    for count, cells in enumerate(ponds(grid)):
        first_row, column = cells[0]
        for row in range(first_row):
            told.setdefault((row, column), []).append(count + 1)
    return told


def written(marks, here, there):
    """Tell the numbers that the step from here to the cell beside writes."""
    if here[1] < there[1]:
        return marks.get(here, [])
    if here[1] > there[1]:
        return opposites(marks.get(there, []))
    return []


def opposites(numbers):
    """Tell the opposites of the numbers, from the last one on."""
    return [-number for number in reversed(numbers)]


def word_along(marks, cells):
    """Tell all that steps from cell to cell write, opposites taken out."""
    return [number for number, place in crossings(marks, cells)]


def crossings(marks, cells):
    """Tell what is left of all that the steps write, each number with its step's count."""
    left = []
    for place in range(len(cells) - 1):
        for number in written(marks, cells[place], cells[place + 1]):
            if left and left[-1][0] == -number:
                left.pop()
            else:
                left.append((number, place))
    return left


def together(one, other):
    """Tell the one word with the other one behind it, opposites taken out."""
    check_word(one)
    check_word(other)
    return put_together(one, other)


def put_together(one, other):
    """Tell two words together, however long they are."""
    # Within each word nothing can be taken out but from where they meet on.
    taken = 0
    while taken < len(one) and taken < len(other) and one[-1 - taken] == -other[taken]:
        taken += 1
    return one[:len(one) - taken] + other[taken:]


def check_word(word):
    """Refuse what is no word."""
    if not isinstance(word, list) or len(word) > MOST_NUMBERS:
        raise BadWord("a word is a list of 0 to 2000 numbers")
    for number in word:
        if not is_number(number) or number == 0:
            raise BadWord("the numbers of a word are whole and not 0")
    for place in range(len(word) - 1):
        if word[place] == -word[place + 1]:
            raise BadWord("a number of the word stands next to its opposite")


def undone(word):
    """Tell the opposites of the word's numbers, from the last one on."""
    check_word(word)
    return opposites(word)


def round_form(word):
    """Tell the least turning of what is left when opposite ends are taken out."""
    check_word(word)
    taken = ends_taken(word)
    left = word[taken:len(word) - taken]
    least = left
    for place in range(1, len(left)):
        turned = left[place:] + left[:place]
        if turned < least:
            least = turned
    return least


def ends_taken(word):
    """Tell how many numbers are taken out at each end of the word till the ends fit."""
    taken = 0
    while 2 * taken + 1 < len(word) and word[taken] == -word[-1 - taken]:
        taken += 1
    return taken


def turns_about(grid, begin, walk):
    """Tell for each pond how often the round goes around it."""
    cells = cells_of(grid, begin, walk)
    check_round(cells)
    word = word_along(cuts(grid), cells)
    return [word.count(count + 1) - word.count(-count - 1) for count in range(len(ponds(grid)))]
