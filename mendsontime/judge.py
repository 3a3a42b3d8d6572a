"""The judge: what is known of the last letters, walked through beat by beat for every pattern of a rule."""

from mendsontime.errors import TooLarge, check_matrix, check_number, is_whole
from mendsontime.forms import alike, is_list, is_matrix, is_tuple
from mendsontime.linear import combine_rows, find_all_factors, reduced_pairs, unit_places, unit_row

MOST_DELAY = 6
MOST_BOUND = 400
MOST_KNOWN = 100


def first_known(code, delay):
    """The known matrix ahead of beat 0: all letters ahead of it are known."""
    width = code.letters * delay
    return [unit_row(width, place) for place in range(width)]


def stack_rows(code, delay, known, lost):
    """The stack of a heard or a lost beat."""
    rows = [row + [0] * code.letters for row in known]
    return rows if lost == 1 else rows + code.fact_rows(delay)


def known_after(code, stack):
    """The known matrix behind a beat with that stack, or None if the beat is not in time."""
    pairs = reduced_pairs(code.field, stack)
    if unit_places(pairs)[:code.letters] != list(range(code.letters)):
        return None
    return [row[code.letters:] for place, row in pairs if place >= code.letters]


def know_first(code, delay):
    """The known matrix ahead of beat 0."""
    check_number(delay, 1, MOST_DELAY, "delay")
    return first_known(code, delay)


def stack_of(code, delay, known, lost):
    """The stack of a heard or a lost beat, for any matrix of what is known."""
    check_number(delay, 1, MOST_DELAY, "delay")
    rows = check_matrix(known, code.field.size, MOST_KNOWN, code.letters * delay, "known", exact=False)
    check_number(lost, 0, 1, "lost")
    return stack_rows(code, delay, rows, lost)


def know_after(code, delay, known, lost):
    """Whether the beat is in time, and the next known matrix if it is."""
    fresh = known_after(code, stack_of(code, delay, known, lost))
    return (fresh is not None, fresh)


class Walk:
    """The walk that builds the table of a code, a rule and a delay.

    `rows` has a state, a known matrix and the first pattern that leads there;
    `moves` has for each row that was looked at the targets of both beats, None
    where the rule does not allow the beat. `failure` is None, or the pattern
    and the stack of the first beat that is not in time, at which the walk ends.
    """

    def __init__(self, code, rule, delay, bound):
        known = first_known(code, delay)
        self.rows = [(rule.first_state(), known, [])]
        self.moves = []
        self.failure = None
        self._places = {table_key(rule.first_state(), known): 0}
        while self.failure is None and len(self.moves) < len(self.rows):
            self._look(code, rule, delay, bound)

    def _look(self, code, rule, delay, bound):
        """Look at both beats of the next row."""
        state, known, pattern = self.rows[len(self.moves)]
        targets = []
        for lost in (0, 1):
            following = rule.after(state, lost)
            if following is None:
                targets.append(None)
                continue
            stack = stack_rows(code, delay, known, lost)
            fresh = known_after(code, stack)
            if fresh is None:
                self.failure = (pattern + [lost], stack)
                return
            targets.append(self._place_of(following, fresh, pattern + [lost], bound))
        self.moves.append(targets)

    def _place_of(self, state, known, pattern, bound):
        """The number of the row of that state and that matrix, a new one if need be."""
        key = table_key(state, known)
        if key not in self._places:
            if len(self.rows) == bound:
                raise TooLarge(bound)
            self._places[key] = len(self.rows)
            self.rows.append((state, known, pattern))
        return self._places[key]


def table_key(state, known):
    """A key for the pair of a state and a known matrix."""
    return (state, tuple([tuple(row) for row in known]))


def yes_table(code, rule, delay, *, bound=400):
    """The yes certificate, or None if the walk ends with a failure."""
    check_number(delay, 1, MOST_DELAY, "delay")
    check_number(bound, 1, MOST_BOUND, "bound")
    walk = Walk(code, rule, delay, bound)
    return table_of(code, delay, walk) if walk.failure is None else None


def table_of(code, delay, walk):
    """The yes certificate of a finished walk."""
    table = []
    for (state, known, _), targets in zip(walk.rows, walk.moves):
        moves = [None if targets[lost] is None else move_of(code, delay, walk, known, lost, targets[lost])
                 for lost in (0, 1)]
        table.append((state, known, moves[0], moves[1]))
    return table


def move_of(code, delay, walk, known, lost, target):
    """The move of a row to a target, with the factors that show it."""
    stack = stack_rows(code, delay, known, lost)
    goals = due_goals(code, delay) + keep_goals(code, walk.rows[target][1])
    factors = find_all_factors(code.field, code.letters * (delay + 1), stack, goals)
    return (target, factors[:code.letters], factors[code.letters:])


def due_goals(code, delay):
    """The unit rows of the letters that are due, in the width of a stack."""
    return [unit_row(code.letters * (delay + 1), place) for place in range(code.letters)]


def keep_goals(code, known):
    """The known rows of a target in the width of a stack."""
    return [[0] * code.letters + row for row in known]


def is_yes(code, rule, delay, paper):
    """Tell whether the paper is a table that shows that the code mends every pattern of the rule."""
    check_number(delay, 1, MOST_DELAY, "delay")
    if not is_table(code, delay, paper) or not has_due_states(rule, paper):
        return False
    for _, known, *moves in paper:
        for lost in (0, 1):
            if moves[lost] is not None and not is_shown(code, delay, paper, known, lost, moves[lost]):
                return False
    return True


def is_table(code, delay, paper):
    """Tell whether the value has the form of a table; states and factors are not looked at."""
    if not is_list(paper, 1, MOST_BOUND):
        return False
    for row in paper:
        if not is_tuple(row, 4):
            return False
        if not is_matrix(row[1], code.field.size, 0, MOST_KNOWN, code.letters * delay):
            return False
        if not all([move is None or is_move(len(paper), move) for move in row[2:]]):
            return False
    return True


def is_move(many, value):
    """Tell whether the value has the form of a move to one of so many rows."""
    return is_tuple(value, 3) and is_whole(value[0], 0, many - 1)


def has_due_states(rule, table):
    """Tell whether all rows are reached with the states that are due, by moves just where the rule allows them."""
    due = {0: rule.first_state()}
    reached = [0]
    taken = 0
    while taken < len(reached):
        row = table[reached[taken]]
        state = due[reached[taken]]
        # Only a state that is due is shown to the rule, which does not check it.
        if not alike(state, row[0]):
            return False
        for lost in (0, 1):
            following = rule.after(state, lost)
            move = row[2 + lost]
            if (following is None) != (move is None):
                return False
            if move is not None and move[0] not in due:
                due[move[0]] = following
                reached.append(move[0])
            if move is not None and not alike(due[move[0]], following):
                return False
        taken += 1
    return len(reached) == len(table)


def is_shown(code, delay, table, known, lost, move):
    """Tell whether the factors of a move give the letters that are due and the known rows of the target."""
    target, due, keep = move
    stack = stack_rows(code, delay, known, lost)
    return (gives(code, stack, due_goals(code, delay), due)
            and gives(code, stack, keep_goals(code, table[target][1]), keep))


def gives(code, stack, goals, paper):
    """Tell whether the value has one row of factors for each goal, which gives it."""
    if not is_matrix(paper, code.field.size, len(goals), len(goals), len(stack)):
        return False
    for goal, factors in zip(goals, paper):
        if combine_rows(code.field, len(goal), stack, factors) != goal:
            return False
    return True
