"""Changed settings: plans whose parts begin anew, with their rules and their signs."""

from mendsontime.errors import check_entries, check_list, check_number, check_pattern, check_tuples
from mendsontime.mender import run_mender
from mendsontime.timecode import encode_rows

MOST_PARTS = 4
MOST_RULE_BEATS = 40
MOST_DELAY = 6
MOST_LETTER_BEATS = 20
MOST_BEATS = 800


class PlanRule:
    """A rule for each part of a plan, which begins anew with its part. It never changes."""

    def __init__(self, parts):
        check_tuples(parts, 1, MOST_PARTS, 2, "parts")
        self._spans = tuple([(rule, check_number(beats, 1, MOST_RULE_BEATS, "parts")) for rule, beats in parts])

    @property
    def beats(self):
        """The number of beats of all parts."""
        return sum([beats for _, beats in self._spans])

    def first_state(self):
        """The state ahead of beat 0."""
        return self._state_ahead(0)

    def after(self, state, lost):
        """The state after a heard or a lost beat, or None if the beat breaks the rule."""
        check_number(lost, 0, 1, "lost")
        part, beat, inner = state
        if part == len(self._spans):
            return None if lost == 1 else (part, 0, 0)
        rule, beats = self._spans[part]
        following = rule.after(inner, lost)
        if following is None:
            return None
        return (part, beat + 1, following) if beat + 1 < beats else self._state_ahead(part + 1)

    def first_break(self, pattern):
        """The first beat that breaks the rule, or None."""
        state = self.first_state()
        for beat, flag in enumerate(check_pattern(pattern, MOST_BEATS, "pattern")):
            state = self.after(state, flag)
            if state is None:
                return beat
        return None

    def _state_ahead(self, part):
        """The state ahead of the first beat of a part, or behind the last part."""
        if part == len(self._spans):
            return (part, 0, 0)
        rule, _ = self._spans[part]
        return (part, 0, rule.first_state())

    def __contains__(self, x):
        return self.first_break(x) is None

    def __eq__(self, other):
        return isinstance(other, PlanRule) and self._spans == other._spans


def check_plan(plan):
    """Return a copy of the plan."""
    check_tuples(plan, 1, MOST_PARTS, 3, "plan")
    for _, delay, beats in plan:
        check_number(delay, 1, MOST_DELAY, "plan")
        check_number(beats, 0, MOST_LETTER_BEATS, "plan")
    return list(plan)


def check_plan_rows(plan, rows):
    """Return a copy of the letter rows of all parts, as one list for each part."""
    owners = [code for code, delay, beats in plan for _ in range(beats)]
    check_list(rows, len(owners), "rows", exact=True)
    for code, row in zip(owners, rows):
        check_list(row, code.letters, "rows", exact=True)
    checked = [check_entries(row, code.field.size, "rows") for code, row in zip(owners, rows)]
    found = []
    for _, _, beats in plan:
        found.append(checked[:beats])
        checked = checked[beats:]
    return found


def plan_spans(plan):
    """The tuples of the beats at which each part begins, its tail begins, and the next part begins."""
    spans = []
    first = 0
    for _, delay, beats in check_plan(plan):
        spans.append((first, first + beats, first + beats + delay))
        first = first + beats + delay
    return spans


def plan_rule(plan, rules):
    """The rule of the plan whose parts have these rules."""
    parts = check_plan(plan)
    check_list(rules, len(parts), "rules", exact=True)
    return PlanRule([(rule, beats + delay) for (_, delay, beats), rule in zip(parts, rules)])


def part_signs(plan, rows):
    """The sign rows of each part."""
    return [encode_rows(code, part, tail=delay) for (code, delay, _), part in zip(plan, rows)]


def plan_signs(plan, rows):
    """The sign rows of all clock beats."""
    parts = check_plan(plan)
    return [row for signs in part_signs(parts, check_plan_rows(parts, rows)) for row in signs]


def run_plan(plan, rows, pattern):
    """The letter rows that are told, with None for each letter told lost."""
    parts = check_plan(plan)
    signs = part_signs(parts, check_plan_rows(parts, rows))
    flags = check_pattern(pattern, sum([len(sent) for sent in signs]), "pattern", exact=True)
    told = []
    for (code, delay, _), sent in zip(parts, signs):
        heard = [None if flag == 1 else row for row, flag in zip(sent, flags)]
        flags = flags[len(sent):]
        told.extend(run_mender(code, delay, heard, tail=delay).mended())
    return told
