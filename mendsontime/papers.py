"""Texts of codes, streams and logs, and reading them back."""

from mendsontime.errors import BadText, check_entries, check_list, check_number, check_tuples
from mendsontime.field import SIZES, Field
from mendsontime.timecode import TimeCode
from mendsontime.words import is_text, read_row, read_whole, row_text, value_text

MOST_LETTERS = 12
MOST_SIGNS = 12
MOST_MEMORY = 12
MOST_ROWS = 500
MOST_ENTRIES = 800
MOST_BEAT = 999
# Letters and signs are elements of any field.
MOST_SIZE = 16


def lines_of(text):
    """The lines of a text; the empty text has one empty line here."""
    if not is_text(text):
        raise BadText(1)
    return text.split("\n")


def code_text(code):
    """The text of a code."""
    lines = [f"code {code.field.size} {code.letters} {code.signs} {code.memory}"]
    for delay in range(code.memory + 1):
        lines.extend([row_text(row) for row in code.tap(delay)])
    return "\n".join(lines)


def read_head(line):
    """The numbers of the head line of a code: size, letters, signs and memory; None if it is bad."""
    words = line.split(" ")
    if len(words) != 5 or words[0] != "code":
        return None
    size = read_whole(words[1], MOST_SIZE)
    letters = read_whole(words[2], MOST_LETTERS)
    signs = read_whole(words[3], MOST_SIGNS)
    memory = read_whole(words[4], MOST_MEMORY)
    if size not in SIZES or letters is None or signs in (None, 0) or memory is None:
        return None
    return None if letters == 0 and memory > 0 else (size, letters, signs, memory)


def read_code(text):
    """The code with that text."""
    lines = lines_of(text)
    head = read_head(lines[0])
    if head is None:
        raise BadText(1)
    size, letters, signs, memory = head
    rows = [read_row(line, signs, size - 1) for line in lines[1:]]
    for at, row in enumerate(rows):
        if row is None or len(row) != signs:
            raise BadText(at + 2)
    due = letters * (memory + 1)
    if len(rows) != due:
        raise BadText(min(len(rows), due) + 2)
    taps = [rows[delay * letters:(delay + 1) * letters] for delay in range(memory + 1)]
    code = TimeCode(Field(size), letters, signs, taps)
    # Only a last tap of zeros makes the memory less than it was written.
    if code.memory < memory:
        raise BadText(1)
    return code


def stream_text(rows):
    """The text of a stream, whose rows may be of unlike lengths."""
    check_list(rows, MOST_ROWS, "rows", exact=False)
    for row in rows:
        check_list(row, MOST_SIGNS, "rows", exact=False)
    checked = [check_entries(row, MOST_SIZE, "rows") for row in rows]
    return "\n".join([row_text(row) if len(row) > 0 else "-" for row in checked])


def read_stream(text):
    """The rows with that text."""
    found = []
    for line in entry_lines(text):
        row = [] if line == "-" else read_row(line, MOST_SIGNS, MOST_SIZE - 1)
        if row is None or len(found) == MOST_ROWS:
            raise BadText(len(found) + 1)
        found.append(row)
    return found


def entry_lines(text):
    """The lines of a text; the empty text has none here."""
    lines = lines_of(text)
    return [] if text == "" else lines


def log_text(log):
    """The text of a log."""
    check_tuples(log, 0, MOST_ENTRIES, 4, "log")
    for beat, place, value, at in log:
        check_number(beat, 0, MOST_BEAT, "log")
        check_number(place, 0, MOST_LETTERS - 1, "log")
        if value is not None:
            check_number(value, 0, MOST_SIZE - 1, "log")
        check_number(at, 0, MOST_BEAT, "log")
    return "\n".join([f"{beat} {place} {value_text(value)} {at}" for beat, place, value, at in log])


def read_entry(line):
    """The entry of a log with that line, or None if it is bad."""
    words = line.split(" ")
    if len(words) != 4:
        return None
    beat = read_whole(words[0], MOST_BEAT)
    place = read_whole(words[1], MOST_LETTERS - 1)
    value = read_whole(words[2], MOST_SIZE - 1)
    at = read_whole(words[3], MOST_BEAT)
    if beat is None or place is None or at is None:
        return None
    return None if value is None and words[2] != "-" else (beat, place, value, at)


def read_log(text):
    """The log with that text."""
    found = []
    for line in entry_lines(text):
        entry = read_entry(line)
        if entry is None or len(found) == MOST_ENTRIES:
            raise BadText(len(found) + 1)
        found.append(entry)
    return found
