import itertools
import unittest

from mendsontime.burstmake import base_code
from mendsontime.errors import BadElement, BadNumber, BadShape, BadText
from mendsontime.field import Field
from mendsontime.mender import plain_log
from mendsontime.papers import code_text, log_text, read_code, read_log, read_stream, stream_text
from mendsontime.timecode import TimeCode

from helping import (
    NO_LISTS, SIZES, Numbers, bad_entries, bad_numbers, check_answer, check_error, check_same, lists_in,
)
from test_mender import some_code

NO_TEXTS = (None, True, False, 0, 1, 1.5, b"code 2 1 1 0", [], ["1"], ("1",), {}, object())

# Signs that no text has, and lines near a right one.
STRANGE = ("\t", "\r", "\x00", "\x7f", "\u00e9", "\u0661", "\u2028", "\x0b", "\x85", "\u00a0", "\U0001f600")


def is_word(word, most):
    """Whether the word is a number from 0 to `most` in the one form."""
    return word in [str(number) for number in range(most + 1)]


def is_row_line(line, least, most, size):
    words = line.split(".")
    return least <= len(words) <= most and all(is_word(word, size - 1) for word in words)


def is_plain_text(text):
    return type(text) is str and all(sign == "\n" or 32 <= ord(sign) <= 126 for sign in text)


def plain_code_line(text):
    """The number of the line at which the text of a code is bad, or None, by the words of the document."""
    if not is_plain_text(text):
        return 1
    lines = text.split("\n")
    words = lines[0].split(" ")
    if len(words) != 5 or words[0] != "code" or not is_word(words[1], 16) or int(words[1]) not in SIZES:
        return 1
    if not (is_word(words[2], 12) and is_word(words[3], 12) and words[3] != "0" and is_word(words[4], 12)):
        return 1
    size, letters, signs, memory = map(int, words[1:])
    if letters == 0 and memory:
        return 1
    for number, line in enumerate(lines[1:], start=2):
        if not is_row_line(line, signs, signs, size):
            return number
    due = 1 + letters * (memory + 1)
    if len(lines) != due:
        return min(len(lines), due) + 1
    if memory and all(set(line) <= {"0", "."} for line in lines[-letters:]):
        return 1
    return None


def plain_stream_line(text):
    if not is_plain_text(text):
        return 1
    for number, line in enumerate(text.split("\n") if text else [], start=1):
        if number == 501 or not (line == "-" or is_row_line(line, 1, 12, 16)):
            return number
    return None


def plain_log_line(text):
    if not is_plain_text(text):
        return 1
    for number, line in enumerate(text.split("\n") if text else [], start=1):
        words = line.split(" ")
        if number == 801 or len(words) != 4 or not (is_word(words[0], 999) and is_word(words[1], 11)):
            return number
        if not (words[2] == "-" or is_word(words[2], 15)) or not is_word(words[3], 999):
            return number
    return None


def near_texts(text):
    """The text with each sign left out, changed, or another one put in; and with lines moved."""
    for at in range(len(text) + 1):
        yield text[:at] + text[at + 1:]
        for sign in "019.- \nx+_" + STRANGE[at % len(STRANGE)]:
            yield text[:at] + sign + text[at:]
            yield text[:at] + sign + text[at + 1:]
    lines = text.split("\n")
    for at in range(len(lines)):
        yield "\n".join(lines[:at] + lines[at + 1:])
        yield "\n".join(lines[:at] + [lines[at]] * 2 + lines[at + 1:])
        yield "\n".join(lines[:at] + [""] + lines[at:])
        yield "\n".join(lines[:at] + ["x"] + lines[at:])
        yield "\n".join(lines[at:] + lines[:at])
    yield text + "\n"
    yield "\n" + text
    yield text + " "
    yield text.replace("\n", "\r\n")


def check_bad(case, read, text, line):
    with case.assertRaises(BadText) as caught:
        read(text)
    case.assertIs(type(caught.exception), BadText)
    check_same(case, caught.exception.line, line)


def check_near(case, read, write, plain, text):
    """Each text near a right one is read exactly if it is the text of what is read."""
    for other in near_texts(text):
        line = plain(other)
        if line is None:
            case.assertEqual(write(read(other)), other)
        else:
            check_bad(case, read, other, line)


def plain_text(code):
    lines = [f"code {code.field.size} {code.letters} {code.signs} {code.memory}"]
    for delay in range(code.memory + 1):
        for row in code.tap(delay):
            lines.append(".".join(str(entry) for entry in row))
    return "\n".join(lines)


class CodeTexts(unittest.TestCase):
    def some_codes(self):
        numbers = Numbers(50)
        for size in SIZES:
            for letters, signs, memory in ((1, 1, 0), (2, 3, 2), (0, 4, 0), (3, 1, 1), (1, 12, 3)):
                yield some_code(numbers, size, letters, signs, memory)
        yield TimeCode(Field(16), 12, 12, [numbers.matrix(16, 12, 12) for _ in range(13)])

    def test_there_and_back(self):
        for code in self.some_codes():
            text = check_answer(self, code_text, {"code": code})
            check_same(self, text, plain_text(code))
            self.assertIsNone(plain_code_line(text))
            self.assertTrue(read_code(text) == code)
            self.assertTrue(read_code(text=text) == read_code(text))
        check_same(self, code_text(base_code(Field(2), 1, 1)), "code 2 1 2 1\n1.0\n0.1")
        check_same(self, code_text(TimeCode(Field(3), 0, 5, [[]])), "code 3 0 5 0")
        check_same(self, code_text(TimeCode(Field(11), 1, 2, [[[0, 10]], [[0, 0]]])), "code 11 1 2 0\n0.10")
        check_same(self, code_text(TimeCode(Field(5), 2, 1, [[[0], [0]]])), "code 5 2 1 0\n0\n0")

    def test_texts_near_a_right_one(self):
        for text in ("code 2 1 2 1\n1.0\n0.1", "code 16 2 1 0\n10\n0", "code 3 0 2 0", "code 4 1 1 2\n0\n3\n1"):
            check_near(self, read_code, code_text, plain_code_line, text)

    def test_told_lines(self):
        for lines, line in ((["code 2 1 1 0", "1", "0", "5"], 4), (["code 2 1 1 0", "1", "0", "1"], 3),
                            (["code 2 1 1 0", "1", "0"], 3), (["code 2 1 1 0", "1", ""], 3), (["code 2 1 1 0", "2"], 2),
                            (["code 2 1 1 0"], 2), (["code 2 1 1 1", "1"], 3), (["code 2 1 1 1", "1", "0"], 1),
                            (["code 2 1 1 1", "2", "0"], 2), (["code 2 1 1 1", "1", "0", "1"], 4),
                            (["code 2 2 1 1", "1", "1", "0"], 5), (["code 2 2 1 1", "1", "1", "0", "0"], 1),
                            (["code 2 0 1 0", "1"], 2), (["code 2 0 1 0", "x"], 2), (["code 2 0 1 0", "1", "x"], 3),
                            (["code 2 0 1 0", ""], 2), (["code 2 0 1 1"], 1), (["code 2 0 1 1", "x"], 1),
                            (["code 6 1 1 0", "x"], 1), (["code 2 13 1 0"], 1), (["code 2 1 0 0"], 1),
                            (["code 2 1 13 0"], 1), (["code 2 1 1 13"], 1), (["code 02 1 1 0", "1"], 1),
                            (["code 2 1 1", "1"], 1), (["code 2 1 1 0 ", "1"], 1), (["Code 2 1 1 0", "1"], 1),
                            (["code  2 1 1 0", "1"], 1), (["code 2 1 1 -0", "1"], 1), ([""], 1), (["", ""], 1),
                            (["code 2 1 2 0", "1"], 2), (["code 2 1 2 0", "1.0.0"], 2), (["code 2 1 2 0", "1 0"], 2),
                            (["code 2 1 2 0", "-"], 2), (["code 3 1 1 12"] + ["1"] * 12 + ["0"], 1)):
            check_bad(self, read_code, "\n".join(lines), line)
            check_same(self, plain_code_line("\n".join(lines)), line)

    def test_no_texts(self):
        for value in NO_TEXTS + tuple("code 2 1 1 0\n1" + sign for sign in STRANGE):
            check_bad(self, read_code, value, 1)

    def test_long_numbers(self):
        for digits in (3, 4300, 4301, 9999):
            for at in range(1, 5):
                words = ["code", "2", "1", "1", "0"]
                words[at] = "1" * digits
                check_bad(self, read_code, " ".join(words) + "\n1", 1)
            check_bad(self, read_code, "code 2 1 1 0\n" + "1" * digits, 2)
            check_bad(self, read_code, "code 2 1 1 0\n" + "0" * digits, 2)
        check_bad(self, read_code, "code 2 1 1 0\n" + ".".join("1" * 99999), 2)
        check_bad(self, read_code, "code 2 1 1 0" + "\n1" * 99999, 3)

    def test_spoilt_lines(self):
        numbers = Numbers(51)
        for code in self.some_codes():
            lines = plain_text(code).split("\n")
            for _ in range(8):
                at = numbers.below(len(lines))
                wrong = list(lines)
                wrong[at] = ("", "x", lines[at] + ".0", lines[at] + " 0", "16", "-", lines[at][:-1])[numbers.below(7)]
                line = plain_code_line("\n".join(wrong))
                if line is None:
                    self.assertEqual(code_text(read_code("\n".join(wrong))), "\n".join(wrong))
                else:
                    check_bad(self, read_code, "\n".join(wrong), line)


class StreamTexts(unittest.TestCase):
    def test_there_and_back(self):
        numbers = Numbers(52)
        streams = [[], [[]], [[], []], [[0]], [[15], [0, 1]], [[], [3], []], [[15] * 12] * 500, [[]] * 500]
        streams += [[numbers.row(16, numbers.below(13)) for _ in range(numbers.below(30))] for _ in range(60)]
        for rows in streams:
            due = "\n".join(".".join(map(str, row)) if row else "-" for row in rows)
            text = check_answer(self, stream_text, {"rows": rows})
            check_same(self, text, due)
            self.assertIsNone(plain_stream_line(text))
            check_same(self, check_answer(self, read_stream, {"text": text}), rows)
        check_same(self, [stream_text([]), stream_text([[]]), stream_text([[1, 10], [], [0]])], ["", "-", "1.10\n-\n0"])

    def test_texts_near_a_right_one(self):
        for text in ("1.10\n-\n0", "", "-", "15.0.3", "0\n0\n0"):
            check_near(self, read_stream, stream_text, plain_stream_line, text)

    def test_bad_lines(self):
        for text, line in (("\n", 1), ("1\n", 2), ("1\n\n1", 2), (" ", 1), ("1\n-\n--", 3), ("1\n-.1", 2), ("16", 1),
                           ("1\n01", 2), ("1.\n1", 1), (".1", 1), (".".join("1" * 13), 1), ("1\n2\n3 ", 3),
                           ("x", 1), ("1,2", 1), ("-1", 1), ("None", 1)):
            check_bad(self, read_stream, text, line)
        # Line 501 is bad, but not ahead of an earlier one.
        check_bad(self, read_stream, "\n".join(["1"] * 501), 501)
        check_bad(self, read_stream, "\n".join(["1"] * 500 + ["x"]), 501)
        check_bad(self, read_stream, "\n".join(["1"] * 499 + ["x", "1"]), 500)
        check_bad(self, read_stream, "\n".join(["1"] * 9999 + ["x"]), 501)
        check_bad(self, read_stream, "\n".join(["1"] * 500) + "\n", 501)
        self.assertEqual(len(read_stream("\n".join(["1"] * 500))), 500)
        for value in NO_TEXTS + tuple("1\n" + sign for sign in STRANGE) + tuple("x\n" + sign for sign in STRANGE):
            check_bad(self, read_stream, value, 1)
        for digits in (3, 4301):
            check_bad(self, read_stream, "1\n" + "1" * digits, 2)
        # The last signs of a text make a bad line, the signs next to them no text at all.
        for sign, line in ((" ", 2), ("~", 2), ("!", 2), ("}", 2), ("\x1f", 1), ("\x7f", 1)):
            check_bad(self, read_stream, "1\n" + sign, line)
            check_bad(self, read_log, "0 0 1 1\n" + sign, line)
            check_bad(self, read_code, "code 2 1 1 0\n" + sign, line)

    def test_checks(self):
        rows = [[1, 10], [], [0]]
        bad = [(value, BadShape) for value in NO_LISTS + (tuple(rows), [[1]] * 501, [[99]] * 501)]
        bad += [([rows[0], wrong, rows[2]], BadShape) for wrong in (None, (1,), 1, "1", [0] * 13, [None] * 13)]
        bad += [([[16], [], (1,)], BadShape), ([[None]] + [[0] * 13], BadShape)]
        bad += [([[1, value], []], BadElement) for value in bad_entries(16)]
        for value, error in bad:
            check_error(self, error, "rows", stream_text, value)
            check_error(self, error, "rows", stream_text, rows=value)

    def test_lists_are_new(self):
        found = read_stream("1\n1\n-\n-")
        self.assertEqual(len(set(map(id, lists_in(found)))), 5)


class LogTexts(unittest.TestCase):
    def test_there_and_back(self):
        numbers = Numbers(53)
        logs = [[], [(0, 0, None, 0)], [(999, 11, 15, 999)], [(5, 1, 0, 6), (0, 0, None, 1)], [(1, 2, 3, 4)] * 800]
        for _ in range(40):
            logs.append([(numbers.below(1000), numbers.below(12), numbers.below(16) if numbers.below(3) else None,
                          numbers.below(1000)) for _ in range(numbers.below(20))])
        for log in logs:
            due = "\n".join(" ".join("-" if part is None else str(part) for part in entry) for entry in log)
            text = check_answer(self, log_text, {"log": log})
            check_same(self, text, due)
            self.assertIsNone(plain_log_line(text))
            check_same(self, check_answer(self, read_log, {"text": text}), log)
        check_same(self, log_text([(0, 0, 1, 1), (1, 0, None, 12)]), "0 0 1 1\n1 0 - 12")
        code = base_code(Field(3), 1, 1)
        log = plain_log(code, 1, [None, [2, 1], [0, 2], None, None])
        check_same(self, read_log(log_text(log)), log)

    def test_texts_near_a_right_one(self):
        for text in ("0 0 1 1\n1 0 - 12", "", "999 11 15 999", "5 1 0 6\n0 0 - 1\n0 0 - 1"):
            check_near(self, read_log, log_text, plain_log_line, text)

    def test_bad_lines(self):
        for text, line in (("\n", 1), ("0 0 1 1\n", 2), ("0 0 1", 1), ("0 0 1 1 1", 1), ("1000 0 1 1", 1),
                           ("0 12 1 1", 1), ("0 0 16 1", 1), ("0 0 1 1000", 1), ("- 0 1 1", 1), ("0 - 1 1", 1),
                           ("0 0 1 -", 1), ("0 0 -- 1", 1), ("0 0 - 1\n0 0 None 1", 2), ("0 0  1", 1), ("0 0 1 01", 1),
                           ("0 0 1 1\n0 0 1 1\n0 0 -1 1", 3), (" 0 0 1 1", 1), ("0 0 1 1 ", 1), ("0.0.1.1", 1)):
            check_bad(self, read_log, text, line)
            check_same(self, plain_log_line(text), line)
        line = "0 0 1 1"
        check_bad(self, read_log, "\n".join([line] * 801), 801)
        check_bad(self, read_log, "\n".join([line] * 799 + ["x", line]), 800)
        check_bad(self, read_log, "\n".join([line] * 800) + "\n", 801)
        check_bad(self, read_log, "\n".join([line] * 5000 + ["x"]), 801)
        self.assertEqual(len(read_log("\n".join([line] * 800))), 800)
        for value in NO_TEXTS + tuple(line + "\n" + sign for sign in STRANGE):
            check_bad(self, read_log, value, 1)
        for at, digits in itertools.product(range(4), (4, 4301)):
            words = ["0", "0", "1", "1"]
            words[at] = "1" * digits
            check_bad(self, read_log, line + "\n" + " ".join(words), 2)

    def test_checks(self):
        log = [(0, 0, 1, 1), (1, 0, None, 2)]
        bad = [(value, BadShape) for value in NO_LISTS + (tuple(log), log * 401, [(None,) * 4] * 801)]
        bad += [([log[0], wrong], BadShape)
                for wrong in (None, [1, 0, None, 2], (1, 0, None), (1, 0, None, 2, 3), "1 0 - 2")]
        bad += [([(1000, 0, 0, 0), (1,)], BadShape)]
        for at, (low, high) in enumerate(((0, 999), (0, 11), (0, 15), (0, 999))):
            for value, error in bad_numbers(low, high):
                if value is not None or at != 2:
                    bad.append(([log[0], log[1][:at] + (value,) + log[1][at + 1:]], error))
        for value, error in bad:
            check_error(self, error, "log", log_text, value)
            check_error(self, error, "log", log_text, log=value)
        # The order of the entries is not checked.
        check_same(self, log_text(log[::-1]), "1 0 - 2\n0 0 1 1")
        check_error(self, BadNumber, "log", log_text, [(0, 0, True, 0)])


if __name__ == "__main__":
    unittest.main()
