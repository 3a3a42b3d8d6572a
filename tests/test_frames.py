import itertools
import unittest

from mendsontime.burstmake import base_code
from mendsontime.errors import BadElement, BadNumber, BadShape, BadText, Ended
from mendsontime.field import Field
from mendsontime.frames import Sender, deliver, frame_mark, frame_text, read_frame, send_all
from mendsontime.timecode import TimeCode, encode_rows

from helping import (
    NO_LISTS, NO_NUMBERS, SIZES, Numbers, alike, bad_entries, bad_matrices, bad_numbers, bad_rows, check_answer,
    check_error, check_errors, check_same, lists_in,
)

ODD_TEXTS = (None, True, False, 0, 1, 1.5, b"3 1.0.2 22", [], ["3 1.0.2 22"], ("3", "1.0.2", "22"), {}, object())


def plain_mark(beat, row):
    total = 5 * beat
    for place in range(len(row)):
        total += (place + 1) * row[place]
    return total % 97


def plain_text(beat, row):
    return " ".join([str(beat), ".".join(map(str, row)), str(plain_mark(beat, row))])


def some_frames():
    numbers = Numbers(4)
    for beat in (0, 1, 3, 9, 10, 99, 100, 500, 998, 999):
        for length in (1, 2, 3, 7, 11, 12):
            for size in (2, 3, 11, 16):
                yield beat, numbers.row(size, length), size
    yield 999, [15] * 12, 16
    yield 0, [0], 2


def bad_long_rows():
    """Pairs of a wrong sign row of a frame and its error."""
    found = [(value, BadShape) for value in NO_LISTS]
    found += [([], BadShape), ([0] * 13, BadShape), ([16] * 13, BadShape), ((1, 0, 2), BadShape)]
    for at in range(3):
        found += [([1, 0, 2][:at] + [value] + [1, 0, 2][at + 1:], BadElement) for value in bad_entries(16)]
    return found


class Marks(unittest.TestCase):
    def test_marks_and_texts(self):
        for beat, row, _ in some_frames():
            check_same(self, check_answer(self, frame_mark, {"beat": beat, "row": row}), plain_mark(beat, row))
            check_same(self, check_answer(self, frame_text, {"frame": (beat, row)}), plain_text(beat, row))
        check_same(self, frame_mark(3, [1, 0, 2]), 22)
        check_same(self, frame_text((3, [1, 0, 2])), "3 1.0.2 22")
        check_same(self, frame_text((0, [0])), "0 0 0")
        check_same(self, frame_text((999, [15] * 12)), "999 " + ".".join(["15"] * 12) + " " + str((4995 + 1170) % 97))
        check_same(self, [frame_mark(19, [2]), frame_mark(19, [1]), frame_mark(0, [0] * 11 + [15])], [0, 96, 83])

    def test_checks(self):
        check_errors(self, frame_mark, {"beat": 3, "row": [1, 0, 2]},
                     {"beat": bad_numbers(0, 999), "row": bad_long_rows()})
        for value in ODD_TEXTS + ("3 1.0.2 22", [3, [1]], (3,), (3, [1], 8), (), (3, (1, 0)), (3, 1), (3, "1"), (3, []),
                                  (3, [0] * 13), (1000, []), (None, None), (-1, [16] * 13)):
            check_error(self, BadShape, "frame", frame_text, value)
        for beat, _ in bad_numbers(0, 999):
            # The number of the beat goes behind the shape, and ahead of the entries.
            check_error(self, BadNumber, "frame", frame_text, (beat, [1]))
            check_error(self, BadNumber, "frame", frame_text, (beat, [16]))
            check_error(self, BadShape, "frame", frame_text, (beat, []))
        for value in bad_entries(16):
            check_error(self, BadElement, "frame", frame_text, (3, [1, value]))


class Reading(unittest.TestCase):
    def test_there_and_back(self):
        for beat, row, size in some_frames():
            good = {"text": plain_text(beat, row), "size": size, "signs": len(row)}
            check_same(self, check_answer(self, read_frame, good), (beat, row))
            for other in SIZES:
                if other <= max(row):
                    check_error(self, BadText, None, read_frame, good["text"], other, len(row))
            for signs in range(1, 13):
                if signs != len(row):
                    check_error(self, BadText, None, read_frame, good["text"], size, signs)

    def test_only_exactly_this_text(self):
        text = "3 1.0.2 22"
        wrong = ["", " ", "3", "3 1.0.2", "3 1.0.2 22 ", " 3 1.0.2 22", "3  1.0.2 22", "3 1.0.2  22", "3 1.0.2 22\n",
                 "\n3 1.0.2 22", "3\n1.0.2 22", "3\t1.0.2 22", "03 1.0.2 22", "3 01.0.2 22", "3 1.00.2 22",
                 "3 1.0.2 022", "+3 1.0.2 22", "-3 1.0.2 22", "3 +1.0.2 22", "3 1.0.2 +22", "3 1.0.2 -75",
                 "3 1.0.2 119",
                 "3 1.0.2 23", "3 1.0.2 21", "4 1.0.2 22", "3 1.0.3 22", "3 1,0,2 22", "3 1.0.2. 22", "3 .1.0.2 22",
                 "3 1..0.2 22", "3 1.0 22", "3 1.0.2.0 22", "3 1 0 2 22", "3 1.0.2 2_2", "3_0 1.0.2 22", "3 1.0.2 22.",
                 "3.0 1.0.2 22", "0x3 1.0.2 22", "3 1.0.2 22 22", "\uff13 1.0.2 22", "3 1.0.\u0662 22",
                 "3 1.0.2 2\u00b2",
                 "3 1.0.2\u00a022", "3 1.0.2 22\x00", "3 1.0.2 22\r", "3\x0b1.0.2 22", "three 1.0.2 22", "- 1.0.2 22",
                 "3 - 22", "3  22", "3 1.0.x 22", "3 1.0.2 x", "3 None 22"]
        for other in wrong:
            with self.assertRaises(BadText) as caught:
                read_frame(other, 3, 3)
            check_same(self, caught.exception.line, 1)
        for value in ODD_TEXTS:
            with self.assertRaises(BadText) as caught:
                read_frame(value, 3, 3)
            check_same(self, caught.exception.line, 1)
        check_same(self, read_frame(text, 3, 3), (3, [1, 0, 2]))
        # Each single sign put in, left out or changed.
        for at, sign in itertools.product(range(len(text) + 1), "0123456789. \n-x"):
            for other in (text[:at] + sign + text[at:], text[:at] + sign + text[at + 1:], text[:at] + text[at + 1:]):
                due = None
                words = other.split(" ")
                if len(words) == 3 and all(part.isdigit() for part in [words[0], words[2]] + words[1].split(".")):
                    beat, row = int(words[0]), [int(part) for part in words[1].split(".")]
                    if beat < 1000 and len(row) == 3 and max(row) < 3 and plain_text(beat, row) == other:
                        due = (beat, row)
                if due is None:
                    check_error(self, BadText, None, read_frame, other, 3, 3)
                else:
                    check_same(self, read_frame(other, 3, 3), due)

    def test_long_texts_and_numbers(self):
        for digits in (4, 5, 100, 4300, 4301, 20000):
            for text in ("9" * digits + " 1 0", "0 " + "1" * digits + " 1", "0 1 " + "1" * digits,
                         "0" * digits + " 0 0", "0 " + "0" * digits + " 0", "0 0 " + "0" * digits):
                check_error(self, BadText, None, read_frame, text, 16, 1)
        check_error(self, BadText, None, read_frame, "0 " + "1." * 300000 + "1 1", 16, 1)
        check_error(self, BadText, None, read_frame, "x" * 10 ** 6, 16, 1)
        # The mark is right, the beat is too large.
        for beat in (1000, 10000, 10 ** 30):
            check_error(self, BadText, None, read_frame, plain_text(beat, [1]), 2, 1)
        check_same(self, read_frame(plain_text(999, [1]), 2, 1), (999, [1]))

    def test_checks(self):
        bad_sizes = [(value, BadNumber) for value in NO_NUMBERS + (0, 1, 6, 10, 12, 14, 15, 17, 32, -2)]
        good = {"text": "3 1.0.2 22", "size": 3, "signs": 3}
        check_errors(self, read_frame, good, {"size": bad_sizes, "signs": bad_numbers(1, 12)})
        # A wrong text is refused behind the other arguments.
        for text in ("", None, "3 1.0.2 23"):
            check_errors(self, read_frame, {**good, "text": text}, {"size": bad_sizes, "signs": bad_numbers(1, 12)})


class Deliveries(unittest.TestCase):
    def test_deliver(self):
        texts = ["a", "b", "c"]
        arrivals = [[2, 0, 2], [], [2, 5, 0]]
        good = {"texts": texts, "arrivals": arrivals, "ticks": 4}
        check_same(self, check_answer(self, deliver, good), [["a", "c"], [], ["a", "a", "c"], []])
        check_same(self, deliver(texts, arrivals, 0), [])
        check_same(self, deliver(texts, arrivals, 2), [["a", "c"], []])
        check_same(self, deliver(texts, arrivals, 6)[5], ["c"])
        check_same(self, deliver([], [], 3), [[], [], []])
        check_same(self, deliver(["a"], [[0] * 20], 1), [["a"] * 20])
        check_same(self, deliver(["a"] * 60, [[99, 999]] * 60, 100), [[]] * 99 + [["a"] * 60])

    def test_against_the_plain_meaning(self):
        numbers = Numbers(3)
        for many in (0, 1, 5, 30, 60):
            texts = [str(numbers.below(7)) for _ in range(many)]
            arrivals = [numbers.row(40, numbers.below(6)) for _ in range(many)]
            due = [[text for text, clocks in zip(texts, arrivals) for at in clocks if at == clock]
                   for clock in range(25)]
            check_same(self, deliver(texts, arrivals, 25), due)

    def test_texts_may_be_anything(self):
        held = [1]
        texts = [None, 0, True, ("x",), held, held, 1.5]
        found = deliver(texts, [[0, 1]] * 7, 2)
        check_same(self, found, [texts, texts])
        self.assertIs(found[1][4], held)
        self.assertIsNot(found[0], found[1])
        self.assertIsNot(found[0], texts)

    def test_lists_are_new(self):
        clocks = [0, 1]
        arrivals = [clocks, clocks]
        found = deliver(["a", "b"], arrivals, 3)
        found[0].append("c")
        check_same(self, [found[1], arrivals], [["a", "b"], [[0, 1], [0, 1]]])
        self.assertEqual(len(set(map(id, lists_in(found)))), 4)

    def test_checks(self):
        texts, arrivals = ["a", "b"], [[2, 0], [1]]
        bad_texts = [(value, BadShape) for value in NO_LISTS] + [(tuple(texts), BadShape), (["a"] * 61, BadShape)]
        bad_arrivals = [(value, BadShape) for value in NO_LISTS] + [
            (tuple(arrivals), BadShape), ([[0]], BadShape), ([[0]] * 3, BadShape), ([[0], (1,)], BadShape),
            ([[0], None], BadShape), ([0, 1], BadShape), ([[0], [0] * 21], BadShape), ([[None], [0] * 21], BadShape),
            ([[1000], None], BadShape)]
        for at in range(2):
            for value in bad_entries(1000):
                wrong = [list(clocks) for clocks in arrivals]
                wrong[at][0] = value
                bad_arrivals.append((wrong, BadElement))
        check_errors(self, deliver, {"texts": texts, "arrivals": arrivals, "ticks": 4},
                     {"texts": bad_texts, "arrivals": bad_arrivals, "ticks": bad_numbers(0, 100)})


def due_texts(code, delay, rows):
    return [plain_text(beat, row) for beat, row in enumerate(encode_rows(code, rows, tail=delay))]


class Senders(unittest.TestCase):
    def setUp(self):
        self.code = TimeCode(Field(3), 2, 3, [[[1, 0, 2], [0, 1, 1]], [[0, 0, 1], [2, 0, 0]], [[0, 1, 0], [0, 0, 1]]])
        self.rows = [[1, 2], [0, 1], [2, 2], [1, 0]]

    def test_push_and_finish(self):
        due = due_texts(self.code, 3, self.rows)
        sender = Sender(self.code, 3, beats=4)
        check_same(self, sender.beat, 0)
        for at, row in enumerate(self.rows):
            check_same(self, sender.push(row), due[at])
            check_same(self, sender.beat, at + 1)
        check_same(self, sender.finish(), due[4:])
        check_same(self, sender.beat, 7)

    def test_rows_that_were_not_pushed_are_zeros(self):
        for pushed in range(5):
            sender = Sender(code=self.code, delay=2, beats=4)
            for row in self.rows[:pushed]:
                sender.push(letters=row)
            check_same(self, sender.finish(),
                       due_texts(self.code, 2, self.rows[:pushed] + [[0, 0]] * (4 - pushed))[pushed:])
            check_same(self, sender.beat, 6)

    def test_ends(self):
        sender = Sender(self.code, 1, beats=1)
        sender.push([1, 2])
        for value in ([1, 1], None, [3, 3], []):
            # The state goes ahead of the argument.
            check_error(self, Ended, None, sender.push, value)
        check_same(self, sender.beat, 1)
        check_same(self, sender.finish(), due_texts(self.code, 1, [[1, 2]])[1:])
        for call in (sender.finish, lambda: sender.push([0, 0]), lambda: sender.push(None)):
            check_error(self, Ended, None, call)
        check_same(self, sender.beat, 2)
        sender = Sender(self.code, 1, beats=3)
        sender.finish()
        check_error(self, Ended, None, sender.push, [0, 0])
        check_error(self, Ended, None, sender.finish)
        check_same(self, sender.beat, 4)

    def test_no_beats(self):
        sender = Sender(self.code, 6, beats=0)
        check_error(self, Ended, None, sender.push, [0, 0])
        check_same(self, sender.finish(), [plain_text(beat, [0, 0, 0]) for beat in range(6)])
        check_same(self, send_all(self.code, 6, []), [plain_text(beat, [0, 0, 0]) for beat in range(6)])

    def test_most_beats(self):
        numbers = Numbers(7)
        for size, letters, signs in ((16, 12, 12), (2, 0, 1), (2, 1, 12)):
            code = TimeCode(Field(size), letters, signs, [numbers.matrix(size, letters, signs) for _ in range(13)])
            rows = numbers.matrix(size, 54, letters)
            check_same(self, send_all(code, 6, rows), due_texts(code, 6, rows))
            sender = Sender(code, 6, beats=54)
            check_same(self, sender.finish(), due_texts(code, 6, [[0] * letters] * 54))

    def test_checks(self):
        for value, error in bad_numbers(1, 6):
            check_error(self, error, "delay", Sender, self.code, value, beats=4)
            check_error(self, error, "delay", Sender, self.code, value, beats=None)
        for value, error in bad_numbers(0, 54):
            check_error(self, error, "beats", Sender, self.code, 1, beats=value)
        with self.assertRaises(TypeError):
            Sender(self.code, 1, 4)
        with self.assertRaises(TypeError):
            Sender(self.code, 1)
        one, other = Sender(self.code, 2, beats=3), Sender(self.code, 2, beats=3)
        row = [1, 2]
        self.assertEqual(one.push(row), other.push([1, 2]))
        check_same(self, row, [1, 2])
        row[0] = 2
        for value, error in bad_rows(3, [1, 2]):
            check_error(self, error, "letters", one.push, value)
        check_same(self, one.beat, 1)
        self.assertEqual(one.finish(), other.finish())
        with self.assertRaises(AttributeError):
            one.beat = 0

    def test_two_senders_do_not_share(self):
        one, other = Sender(self.code, 2, beats=2), Sender(self.code, 2, beats=2)
        one.push([2, 2])
        one.finish()
        check_same(self, [other.beat, other.push([1, 1])], [0, due_texts(self.code, 2, [[1, 1]])[0]])
        found = other.finish()
        found.append("x")
        check_same(self, other.beat, 4)

    def test_send_all(self):
        good = {"code": self.code, "delay": 2, "rows": self.rows}
        check_errors(self, send_all, good, {"delay": bad_numbers(1, 6), "rows": bad_matrices(3, self.rows, most=54)})
        check_same(self, check_answer(self, send_all, good), due_texts(self.code, 2, self.rows))
        for delay in range(1, 7):
            check_same(self, send_all(self.code, delay, self.rows), due_texts(self.code, delay, self.rows))
        for size in SIZES:
            code = base_code(Field(size), 2, 3)
            rows = Numbers(size).matrix(size, 7, 3)
            texts = send_all(code, 3, rows)
            self.assertTrue(alike([read_frame(text, size, 5) for text in texts],
                                  list(enumerate(encode_rows(code, rows, tail=3)))))


if __name__ == "__main__":
    unittest.main()
