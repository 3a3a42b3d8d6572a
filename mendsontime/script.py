"""Scripts: commands for a desk that makes codes, judges them, and runs them."""

from mendsontime.bar import bar_paper
from mendsontime.burstmake import Making
from mendsontime.errors import BadElement, BadNumber, BadShape, BadText, TooLarge
from mendsontime.field import SIZES, Field
from mendsontime.judge import Walk
from mendsontime.mender import MOST_BEATS, Mender
from mendsontime.patterns import pattern_text
from mendsontime.rules import BurstRule, WindowRule
from mendsontime.timecode import Encoder
from mendsontime.words import is_text, read_row, read_whole, value_text

MOST_NUMBER = 999
MOST_ENTRIES = 12
MOST_BOUND = 400

# The words behind each command: "n" is a number word, "r" a row.
FORMS = {
    "field": "n",
    "make": "nnnn",
    "judge burst": "nn",
    "judge window": "nnn",
    "begin": "",
    "send heard": "r",
    "send lost": "r",
    "tail heard": "",
    "tail lost": "",
    "log": "",
    "show": "",
}


def read_word(form, word):
    """The number or the row of a word, or None if it has not that form."""
    if form == "n":
        return read_whole(word, MOST_NUMBER)
    return [] if word == "-" else read_row(word, MOST_ENTRIES, MOST_NUMBER)


def command_of(line):
    """The name of a command and the values of its words, or None if the line has none of the forms."""
    if not is_text(line):
        return None
    words = line.split(" ")
    many = 1 if words[0] in FORMS else 2
    name = " ".join(words[:many])
    if name not in FORMS or len(words) - many != len(FORMS[name]):
        return None
    values = [read_word(form, word) for form, word in zip(FORMS[name], words[many:])]
    return None if None in values else (name, values)


class Desk:
    """Does commands one by one, and reports each one."""

    def __init__(self):
        self._field = None
        self._code = None
        self._delay = None
        self._encoder = None
        self._mender = None
        self._in_tail = False
        self._reports = []

    def do(self, line):
        """Do one command; return the report."""
        command = command_of(line)
        report = "unknown" if command is None else self._answer(command[0], command[1])
        self._reports.append(report)
        return report

    def reports(self):
        """The list of all reports."""
        return list(self._reports)

    def __iter__(self):
        return iter(self._reports)

    def _answer(self, name, values):
        """Do a command that has its form."""
        if name == "field":
            return self._set_field(values[0])
        if name == "make":
            return self._make(*values)
        if name in ("judge burst", "judge window"):
            return self._judge(name, values)
        if name == "begin":
            return self._begin()
        if name in ("send heard", "send lost"):
            return self._send(values[0], name == "send heard")
        if name in ("tail heard", "tail lost"):
            return self._send_tail(name == "tail heard")
        return self._count() if name == "log" else self._show()

    def _set_field(self, size):
        """Set the field, and drop what was made over the field before."""
        if size not in SIZES:
            return "refused size"
        self._field = Field(size)
        self._set_code(None, None)
        return f"field {size}"

    def _set_code(self, code, delay):
        """Set the code and its delay, and drop the run."""
        self._code = code
        self._delay = delay
        self._set_run(None, None)

    def _set_run(self, encoder, mender):
        """Set the run, which has no tail beat yet."""
        self._encoder = encoder
        self._mender = mender
        self._in_tail = False

    def _make(self, letters, signs, burst, delay):
        """Make the code of a setting, or tell its bar."""
        if self._field is None:
            return "refused field"
        try:
            paper = bar_paper(letters, signs, burst, delay)
        except BadNumber:
            return "refused number"
        if paper is not None:
            return f"bar {pattern_text(paper[0])} {paper[1]} {paper[2]}"
        try:
            making = Making(self._field, letters, signs, burst, delay)
        except TooLarge:
            return "refused large"
        self._set_code(making.code, delay)
        return f"made {making.code.letters} {making.code.signs} {making.multiple}"

    def _judge(self, name, numbers):
        """Judge the code for every pattern of a rule."""
        if self._code is None:
            return "refused code"
        try:
            rule = BurstRule(*numbers) if name == "judge burst" else WindowRule(*numbers)
        except BadNumber:
            return "refused number"
        try:
            walk = Walk(self._code, rule, self._delay, MOST_BOUND)
        except TooLarge:
            return "refused large"
        return f"mends {len(walk.rows)}" if walk.failure is None else f"fails {pattern_text(walk.failure[0])}"

    def _begin(self):
        """Begin a new run."""
        if self._code is None:
            return "refused code"
        self._set_run(Encoder(self._code), Mender(self._code, self._delay))
        return "begun"

    def _is_over(self):
        """Tell whether there is no run that takes more beats."""
        return self._mender is None or self._mender.beat == MOST_BEATS

    def _send(self, row, heard):
        """Send a letter row, whose signs are heard or lost."""
        if self._is_over() or self._in_tail:
            return "refused run"
        try:
            signs = self._encoder.push(row)
        except (BadShape, BadElement):
            return "refused letters"
        return told_text(self._mender.hear(signs) if heard else self._mender.lose())

    def _send_tail(self, heard):
        """Send a tail beat, whose signs are heard or lost."""
        if self._is_over():
            return "refused run"
        self._in_tail = True
        signs = self._encoder.push([0] * self._code.letters)
        return told_text(self._mender.hear(signs, tail=True) if heard else self._mender.lose(tail=True))

    def _count(self):
        """Count the letters of the run: told, told lost, and open."""
        if self._mender is None:
            return "refused run"
        values = [value for _, _, value, _ in self._mender.log()]
        lost = values.count(None)
        return f"log {len(values) - lost} {lost} {len(self._mender.open_letters())}"

    def _show(self):
        """Show what the desk has."""
        size = None if self._field is None else self._field.size
        letters = None if self._code is None else self._code.letters
        signs = None if self._code is None else self._code.signs
        beats = None if self._mender is None else self._mender.beat
        shown = [value_text(value) for value in (size, letters, signs, self._delay, beats)]
        return " ".join(["show"] + shown)


def told_text(told):
    """The report of what is told at a beat."""
    return " ".join(["told"] + [f"{beat}.{place}.{value_text(value)}" for beat, place, value in told])


def run_script(text):
    """The reports of a new desk for the lines of the text."""
    if not is_text(text):
        raise BadText(1)
    desk = Desk()
    if text != "":
        for line in text.split("\n"):
            desk.do(line)
    return desk.reports()
