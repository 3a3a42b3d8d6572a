"""Block codes laid through time along slants, each word mended by itself."""

from mendsontime.block import solving_rows
from mendsontime.errors import check_heard, check_matrix, check_number
from mendsontime.linear import join_rows, sum_of_products, unit_row
from mendsontime.timecode import TimeCode

MOST = 12
MOST_HEARD = 60
MOST_SIZE = 16
LEAST_START = -40


def check_slants(field, letters, checks, matrix):
    """Return a copy of the matrix of checks after the checks of the numbers and of itself."""
    check_number(letters, 0, MOST, "letters")
    check_number(checks, 1 if letters == 0 else 0, MOST - letters, "checks")
    return check_matrix(matrix, field.size, letters, checks, "matrix")


def slant_code(field, letters, checks, matrix):
    """The code in time whose words stand along slants."""
    rows = check_slants(field, letters, checks, matrix)
    signs = letters + checks
    # The last check of a word stands `signs - 1` beats behind its first letter.
    taps = [[[0] * signs for _ in range(letters)] for _ in range(signs)]
    for letter, row in enumerate(rows):
        taps[0][letter][letter] = 1
        for check, entry in enumerate(row):
            taps[letters + check - letter][letter][letters + check] = entry
    return TimeCode(field, letters, signs, taps)


def slant_word(width, heard, start):
    """The word that starts at that beat, with None for what is lost or still to come."""
    check_number(width, 1, MOST, "width")
    received = check_heard(heard, MOST_SIZE, MOST_HEARD, width, "heard")
    check_number(start, LEAST_START, MOST_HEARD, "start")
    return word_at(width, received, start)


def word_at(width, heard, start):
    """The word that starts at that beat; ahead of beat 0 all signs are 0 and heard."""
    word = []
    for place in range(width):
        beat = start + place
        if beat < 0:
            word.append(0)
        elif beat >= len(heard) or heard[beat] is None:
            word.append(None)
        else:
            word.append(heard[beat][place])
    return word


def told_letters(field, rows, word):
    """The letters that a word of the block code gives, None for those that are not determined."""
    lost = [1 if sign is None else 0 for sign in word]
    filled = [0 if sign is None else sign for sign in word]
    solving = solving_rows(field, len(word), rows, lost)
    return [None if row is None else sum_of_products(field, row, filled) for row in solving]


def mend_slants(field, letters, checks, matrix, heard):
    """The letter rows that single words give."""
    checked = check_slants(field, letters, checks, matrix)
    width = letters + checks
    received = check_heard(heard, field.size, MOST_HEARD, width, "heard")
    rows = join_rows([unit_row(letters, place) for place in range(letters)], checked)
    # The first of these words is the one whose last letter stands in beat 0.
    first = 1 - letters
    words = [word_at(width, received, start) for start in range(first, len(received))]
    told = [told_letters(field, rows, word) for word in words]
    return [[told[beat - place - first][place] for place in range(letters)] for beat in range(len(received))]
