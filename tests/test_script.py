import itertools
import re
import unittest
import unittest.mock

from mendsontime.bar import bar_paper
from mendsontime.burstmake import Making, can_make
from mendsontime.errors import BadNumber, BadText, TooLarge
from mendsontime.field import Field
from mendsontime.judge import yes_table
from mendsontime.mender import Mender
from mendsontime.rules import BurstRule, WindowRule
from mendsontime.script import Desk, run_script
from mendsontime.shortest import shortest_failure

from helping import SIZES, Numbers, check_answer, check_same, plain_signs

NUMBER = "(0|[1-9][0-9]{0,2})"
ROW = "(-|" + NUMBER + "([.]" + NUMBER + "){0,11})"
FORMS = [re.compile(form.replace("N", NUMBER).replace("R", ROW)) for form in (
    "field N", "make N N N N", "judge burst N N", "judge window N N N", "begin", "send (heard|lost) R",
    "tail (heard|lost)", "log", "show")]


class PlainDesk:
    """The commands by the words of the document; the run is kept as the rows sent and the beats lost."""

    def __init__(self):
        self.size = self.code = self.delay = self.run = None

    def do(self, line):
        if type(line) is not str or not any(form.fullmatch(line) for form in FORMS):
            return "unknown"
        words = line.split(" ")
        numbers = [int(word) for word in words if word.isdigit() and words[0] != "send"]
        return getattr(self, "do_" + words[0])(words, numbers)

    def do_field(self, words, numbers):
        if numbers[0] not in SIZES:
            return "refused size"
        self.size, self.code, self.delay, self.run = numbers[0], None, None, None
        return "field " + words[1]

    def do_make(self, words, numbers):
        if self.size is None:
            return "refused field"
        try:
            made = can_make(*numbers)
        except BadNumber:
            return "refused number"
        if not made:
            pattern, due, heard = bar_paper(*numbers)
            return "bar " + "".join(".x"[flag] for flag in pattern) + " " + str(due) + " " + str(heard)
        try:
            making = Making(Field(self.size), *numbers)
        except TooLarge:
            return "refused large"
        self.code, self.delay, self.run = making.code, numbers[3], None
        return " ".join(["made", str(making.code.letters), str(making.code.signs), str(making.multiple)])

    def do_judge(self, words, numbers):
        if self.code is None:
            return "refused code"
        try:
            rule = {"burst": BurstRule, "window": WindowRule}[words[1]](*numbers)
        except BadNumber:
            return "refused number"
        table = yes_table(self.code, rule, self.delay)
        if table is None:
            return "fails " + "".join(".x"[flag] for flag in shortest_failure(self.code, rule, self.delay)[0])
        return "mends " + str(len(table))

    def do_begin(self, words, numbers):
        if self.code is None:
            return "refused code"
        self.run = []
        return "begun"

    def beat(self, row, lost):
        """Take a beat, None as the row of a tail beat; all beats are taken anew."""
        self.run.append((row, lost))
        zeros = [0] * self.code.letters
        rows = [zeros if row is None else row for row, _ in self.run]
        mender = Mender(self.code, self.delay)
        for at, (own, flag) in enumerate(self.run):
            told = (mender.lose(tail=own is None) if flag
                    else mender.hear(plain_signs(self.code, rows, at), tail=own is None))
        self.mender = mender
        return "".join(["told"] + [f" {beat}.{place}." + ("-" if value is None else str(value))
                                   for beat, place, value in told])

    def do_send(self, words, numbers):
        if self.run is None or len(self.run) == 60 or any(row is None for row, _ in self.run):
            return "refused run"
        row = [] if words[2] == "-" else [int(part) for part in words[2].split(".")]
        if len(row) != self.code.letters or not all(letter < self.size for letter in row):
            return "refused letters"
        return self.beat(row, words[1] == "lost")

    def do_tail(self, words, numbers):
        if self.run is None or len(self.run) == 60:
            return "refused run"
        return self.beat(None, words[1] == "lost")

    def do_log(self, words, numbers):
        if self.run is None:
            return "refused run"
        if not self.run:
            return "log 0 0 0"
        values = [entry[2] for entry in self.mender.log()]
        return f"log {len(values) - values.count(None)} {values.count(None)} {len(self.mender.open_letters())}"

    def do_show(self, words, numbers):
        shown = (self.size, self.code and self.code.letters, self.code and self.code.signs, self.delay,
                 None if self.run is None else len(self.run))
        return " ".join(["show"] + ["-" if value is None else str(value) for value in shown])


def random_line(numbers, desk):
    """A command that mostly can be done, and sometimes one that is refused or spoilt."""
    def some(*values):
        return values[numbers.below(len(values))]

    letters = 2 if desk.code is None else desk.code.letters
    row = ".".join(str(numbers.below((desk.size or 2) + (numbers.below(12) == 0)))
                   for _ in range(letters + (numbers.below(12) == 0))) or "-"
    line = some(
        "field " + some("2", "3", "16", "4", "9", "6") if numbers.below(9) == 0 else "show",
        "make " + some("1 2 1 1", "2 3 1 2", "1 1 1 1", "0 2 3 1", "3 5 2 3", "2 2 0 1", "5 8 3 6", "4 8 5 6",
                       "9 9 1 1") if numbers.below(6) == 0 else "log",
        "judge burst " + some("1 1", "2 2", "0 1", "1 2", "9 1", "1 9"),
        "judge window " + some("3 1 1", "4 2 2", "2 0 0", "8 1 1", "3 1 2"),
        "begin" if numbers.below(4) == 0 else "send lost " + row, "send heard " + row, "send heard " + row,
        "send lost " + row, "tail " + some("heard", "lost") if numbers.below(9) == 0 else "send heard " + row,
        "send heard " + row, "log", "show")
    if numbers.below(15) == 0:
        at = numbers.below(len(line) + 1)
        line = line[:at] + some(" ", "0", "x", "\n", ".", "-") + line[at:]
    return line


def run(*lines):
    desk = Desk()
    return [desk.do(line) for line in lines][-1]


class Scripts(unittest.TestCase):
    def test_against_the_plain_desk(self):
        numbers = Numbers(60)
        seen = {}
        for _ in range(60):
            plain, lines, due = PlainDesk(), [], []
            desk = Desk()
            for at in range(60):
                line = random_line(numbers, plain)
                if at < 3 and numbers.below(6):
                    line = ("field 3", "make 2 3 1 2", "begin")[at]
                lines.append(line)
                due.append(plain.do(line))
                check_same(self, desk.do(line), due[-1])
                seen[" ".join(due[-1].split(" ")[:2 if due[-1].startswith("refused") else 1])] = True
            check_same(self, desk.reports(), due)
            check_same(self, list(desk), due)
            flat = [line for line in lines if "\n" not in line]
            plain = PlainDesk()
            check_same(self, run_script("\n".join(flat)), [plain.do(line) for line in flat])
        for word in ("refused size", "refused field", "refused number", "refused code", "refused run",
                     "refused letters", "refused large", "field", "made", "bar", "mends", "fails", "begun", "told",
                     "log", "show", "unknown"):
            self.assertIn(word, seen)

    def test_the_example(self):
        text = "make 1 2 1 1\nfield 2\nmake 1 1 1 1\nmake 1 2 1 1\nbegin\nsend lost 1\ntail heard\nlog"
        check_same(self, check_answer(self, run_script, {"text": text}),
                   ["refused field", "field 2", "bar x.x 2 1", "made 1 2 1", "begun", "told", "told 0.0.1",
                    "log 1 0 0"])

    def test_lines_of_a_script(self):
        check_same(self, run_script(""), [])
        check_same(self, run_script("show"), ["show - - - - -"])
        check_same(self, run_script("show\n"), ["show - - - - -", "unknown"])
        check_same(self, run_script("\n"), ["unknown", "unknown"])
        check_same(self, run_script("\nfield 3\n\nshow"), ["unknown", "field 3", "unknown", "show 3 - - - -"])
        self.assertEqual(run_script("show\n" * 5000), ["show - - - - -"] * 5000 + ["unknown"])
        for value in (None, True, 0, 1, b"show", [], ["show"], ("show",), {}, "show\r\nshow", "show\tshow",
                      "field 2\u00a0", "show\nfield \u0662", "show\n\x7f", "\x00"):
            with self.assertRaises(BadText) as caught:
                run_script(value)
            check_same(self, caught.exception.line, 1)

    def test_two_scripts_do_not_share(self):
        for _ in range(2):
            check_same(self, run_script("show\nfield 5\nmake 1 2 1 1\nbegin\nshow"),
                       ["show - - - - -", "field 5", "made 1 2 1", "begun", "show 5 1 2 1 0"])


class Forms(unittest.TestCase):
    def test_unknown_goes_ahead_of_every_refusal(self):
        for line in ("", " ", "fields 2", "Field 2", "FIELD 2", "field", "field 2 ", " field 2", "field  2", "field 02",
                     "field -2", "field +2", "field 2.0", "field x", "field 1000", "field 0x2", "field 2 2", "field\t2",
                     "field 2\n", "\nfield 2", "field\n2", "field \u0662", "field \u00b2", "make", "make 1 2 1",
                     "make 1 2 1 1 1", "make 1 2 1 01", "make 1 2 1 1000", "make a 2 1 1", "judge", "judge burst",
                     "judge burst 1", "judge burst 1 1 1", "judge window 3 1", "judge window 3 1 1 1",
                     "judge Burst 1 1", "judge 1 1", "judge plan 1 1", "judge  burst 1 1", "judge burst 1 x", "begin 1",
                     "begin ", "begins",
                     "send", "send heard", "send lost", "send 1", "send heard 1 1", "send heard 1,1", "send heard .",
                     "send heard 1.", "send heard .1", "send heard 1..1", "send heard --", "send heard -.1",
                     "send heard 01", "send heard 1000", "send heard 0." * 2, "send maybe 1", "send Heard 1",
                     "send heard " + ".".join("0" * 13), "send heard -1", "tail", "tail heard 1", "tail  heard",
                     "tail maybe", "tail heard ", "log 1", "logs", "log\n", "show 1", "show ", "show\nshow", "unknown",
                     "show\r", "show\u00a0", "sh\u00f6w", "judge burst", "send heard\n1", "9" * 5000,
                     "field " + "1" * 5000, "send heard " + "1" * 5000):
            desk = Desk()
            check_same(self, desk.do(line), "unknown")
            check_same(self, desk.do("show"), "show - - - - -")
            self.assertIsNone(next((form for form in FORMS if form.fullmatch(line)), None))
            for ready in ("field 2", "make 1 2 1 1", "begin"):
                desk.do(ready)
            before = desk.do("show")
            check_same(self, desk.do(line), "unknown")
            check_same(self, desk.do("show"), before)
        for value in (None, True, 0, 1.5, b"show", [], ["show"], ("show",), {}, object()):
            desk = Desk()
            check_same(self, desk.do(value), "unknown")
            check_same(self, desk.reports(), ["unknown"])

    def test_number_words(self):
        for word, due in (("0", "refused size"), ("2", "field 2"), ("999", "refused size"), ("16", "field 16")):
            check_same(self, run("field " + word), due)
        check_same(self, run("send lost 999"), "refused run")
        check_same(self, run("send lost " + ".".join(["999"] * 12)), "refused run")
        check_same(self, run("send lost -"), "refused run")
        check_same(self, run("make 0 0 0 0"), "refused field")
        check_same(self, run("judge window 999 999 999"), "refused code")


class Commands(unittest.TestCase):
    def test_field(self):
        for size in range(20):
            check_same(self, run(f"field {size}"), f"field {size}" if size in SIZES else "refused size")
        # The code, the delay and the run are dropped, also by the same size.
        for size in (2, 3):
            check_same(self, run("field 2", "make 1 2 1 1", "begin", f"field {size}", "show"), f"show {size} - - - -")
        check_same(self, run("field 2", "make 1 2 1 1", "begin", "field 6", "show"), "show 2 1 2 1 0")
        check_same(self, run("field 2", "make 1 2 1 1", "field 2", "begin"), "refused code")

    def test_make(self):
        for numbers in itertools.product((0, 1, 3, 8, 9), (0, 1, 5, 8, 9), (0, 1, 2, 8, 9), (0, 1, 3, 6, 7)):
            words = " ".join(map(str, numbers))
            desk, plain = Desk(), PlainDesk()
            check_same(self, desk.do("make " + words), "refused field")
            for line in ("field 3", "make " + words, "show"):
                check_same(self, desk.do(line), plain.do(line))
        check_same(self, run("field 2", "make 2 3 1 2"), "made 2 3 1")
        check_same(self, run("field 2", "make 1 3 3 3"), "made 3 9 3")
        check_same(self, run("field 2", "make 1 8 3 4"), "refused large")
        check_same(self, run("field 2", "make 4 3 0 1"), "refused number")
        check_same(self, run("field 2", "make 8 8 8 6"), "bar " + "x" * 7 + " 8 0")
        # A bar and each refusal change nothing, the run included.
        for line in ("make 1 1 1 1", "make 1 8 3 4", "make 1 9 1 1", "make 1 2 1 0", "make x 2 1 1"):
            check_same(self, run("field 2", "make 1 2 1 1", "begin", "send lost 1", line, "show"), "show 2 1 2 1 1")
            check_same(self, run("field 2", "make 1 2 1 1", "begin", "send lost 1", line, "tail heard"), "told 0.0.1")
        # A new code drops the run.
        check_same(self, run("field 2", "make 1 2 1 1", "begin", "make 1 2 1 1", "show"), "show 2 1 2 1 -")
        check_same(self, run("field 2", "make 1 2 1 1", "begin", "make 1 2 1 1", "log"), "refused run")
        # The letters and signs are those of the code, not those of the setting.
        check_same(self, run("field 2", "make 1 2 2 2", "show"), "show 2 2 4 2 -")

    def test_judge(self):
        ready = ("field 2", "make 2 3 1 2")
        for line, due in (("judge burst 1 2", "mends 3"), ("judge burst 1 8", "mends 9"),
                          ("judge burst 2 2", "fails xx."),
                          ("judge burst 0 1", "mends 1"), ("judge burst 9 1", "refused number"),
                          ("judge burst 1 0", "refused number"), ("judge burst 1 9", "refused number"),
                          ("judge window 3 1 1", "mends 3"), ("judge window 8 1 1", "refused number"),
                          ("judge window 1 0 0", "refused number"), ("judge window 3 3 1", "refused number"),
                          ("judge window 3 2 0", "refused number"), ("judge window 3 2 3", "refused number")):
            check_same(self, run(line), "refused code")
            check_same(self, run("field 2", line), "refused code")
            found = run(*ready, line)
            check_same(self, found, due)
            plain = PlainDesk()
            check_same(self, [plain.do(part) for part in (*ready, line)][-1], found)
            check_same(self, run(*ready, "begin", "send lost 1.1", line, "show"), "show 2 2 3 2 1")
        check_same(self, run("field 2", "make 2 2 0 1", "judge burst 1 8"), "fails x.")

    def test_begin(self):
        check_same(self, run("begin"), "refused code")
        check_same(self, run("field 2", "begin"), "refused code")
        ready = ("field 3", "make 1 2 1 1", "begin", "send heard 2", "tail lost")
        check_same(self, run(*ready, "show"), "show 3 1 2 1 2")
        # A new run has a new Encoder: the letter 2 of the earlier run is not in its signs.
        check_same(self, run(*ready, "begin", "show"), "show 3 1 2 1 0")
        check_same(self, run(*ready, "begin", "send lost 1", "send heard 0"), "told 0.0.1 1.0.0")
        check_same(self, run(*ready, "begin", "log"), "log 0 0 0")

    def test_send_and_tail(self):
        check_same(self, [run("send heard 1"), run("tail heard"), run("log")], ["refused run"] * 3)
        ready = ("field 3", "make 2 3 1 2", "begin")
        for line in ("send heard 1", "send heard 1.1.1", "send heard -", "send lost 3.0", "send heard 0.3",
                     "send lost 999.0", "send heard " + ".".join("0" * 12)):
            check_same(self, run(*ready, line), "refused letters")
            check_same(self, run(*ready, "send lost 2.1", line, "send heard 1.0"), run(*ready, "send lost 2.1",
                                                                                       "send heard 1.0"))
            check_same(self, run(*ready[:2], line), "refused run")
            # The run goes ahead of the letters.
            check_same(self, run(*ready, "tail heard", line), "refused run")
        check_same(self, run(*ready, "send lost 2.1", "send heard 1.0"), "told 0.0.2 1.0.1 1.1.0")
        check_same(self, run(*ready, "send lost 2.1", "send heard 1.0", "tail heard"), "told 0.1.1")
        # Of the letters 1 of beat 0 and 0 of beat 1 only the sum is heard.
        check_same(self, run(*ready, "send lost 2.1", "send lost 1.0", "tail heard"), "told 0.0.- 0.1.-")
        check_same(self, run(*ready, "send lost 2.1", "send lost 1.0", "send heard 2.0"),
                   "told 0.0.- 0.1.- 2.0.2 2.1.0")
        check_same(self, run(*ready, "send lost 2.1", "tail lost", "tail lost"), "told 0.0.- 0.1.-")
        check_same(self, run(*ready, "send lost 2.1", "tail lost", "tail lost", "log"), "log 0 2 0")
        check_same(self, run(*ready, "send lost 2.1", "send heard 1.0", "log"), "log 3 0 1")
        check_same(self, run(*ready, "tail lost", "send heard 1.0"), "refused run")
        check_same(self, run(*ready, "tail lost", "send heard 1.0", "show"), "show 3 2 3 2 1")
        # A new run behind a tail takes letters again.
        check_same(self, run(*ready, "tail lost", "begin", "send heard 1.0"), "told 0.0.1 0.1.0")

    def test_codes_without_letters(self):
        ready = ("field 2", "make 0 1 3 1", "begin")
        check_same(self, run(*ready, "send heard -"), "told")
        check_same(self, run(*ready, "send heard 0"), "refused letters")
        check_same(self, run(*ready, "send lost -", "tail heard", "log"), "log 0 0 0")
        check_same(self, run(*ready, "send lost -", "show"), "show 2 0 1 1 1")

    def test_sixty_beats(self):
        ready = ["field 2", "make 1 2 1 1", "begin"]
        for last in ("send heard 1", "tail lost"):
            lines = ready + ["send heard 1"] * 59 + [last]
            check_same(self, run(*lines, "show"), "show 2 1 2 1 60")
            for line in ("send heard 1", "send lost 1", "tail heard", "tail lost", "send heard 5", "send heard -"):
                check_same(self, run(*lines, line), "refused run")
            check_same(self, run(*lines, "log"), "log 60 0 0" if last == "send heard 1" else "log 59 0 0")
            check_same(self, run(*lines, "begin"), "begun")
        check_same(self, run(*ready, *["tail heard"] * 60, "tail heard"), "refused run")

    def test_show(self):
        check_same(self, run("show"), "show - - - - -")
        check_same(self, run("field 7", "show"), "show 7 - - - -")
        check_same(self, run("field 7", "make 3 5 2 3", "show"), "show 7 3 5 3 -")
        check_same(self, run("field 7", "make 3 5 2 3", "begin", "show"), "show 7 3 5 3 0")


class Desks(unittest.TestCase):
    def test_reports(self):
        desk = Desk()
        check_same(self, [desk.reports(), list(desk)], [[], []])
        desk.do(line="show")
        desk.do(None)
        desk.do("begin")
        due = ["show - - - - -", "unknown", "refused code"]
        found = desk.reports()
        check_same(self, found, due)
        found.append("x")
        check_same(self, [desk.reports(), list(desk)], [due, due])
        self.assertEqual([report for report in desk], due)

    def test_two_desks_do_not_share(self):
        one, other = Desk(), Desk()
        for line in ("field 2", "make 1 2 1 1", "begin", "send lost 1"):
            one.do(line)
        check_same(self, other.reports(), [])
        check_same(self, other.do("show"), "show - - - - -")
        check_same(self, one.do("tail heard"), "told 0.0.1")

    def test_judging_too_large(self):
        # No rule of these classes makes so large a table for a code that a desk makes, so the walk is another one here.
        desk = Desk()
        for line in ("field 2", "make 1 2 1 1", "begin"):
            desk.do(line)
        with unittest.mock.patch("mendsontime.script.Walk", side_effect=TooLarge(400)) as walk:
            check_same(self, desk.do("judge burst 1 8"), "refused large")
            check_same(self, desk.do("judge burst 1 9"), "refused number")
            self.assertEqual(walk.call_args.args[3], 400)
        check_same(self, [desk.do("show"), desk.do("judge burst 1 8")], ["show 2 1 2 1 0", "mends 9"])


if __name__ == "__main__":
    unittest.main()
