"""The machine of a rule: its states in order, its patterns counted, and rules compared.

Of a rule nothing is asked here but its first state and the state after a beat.
"""

from mendsontime.errors import TooLarge, check_number
from mendsontime.forms import alike, is_list

MOST_BOUND = 400
MOST_COUNTED = 60
MOST_LISTED = 10


class Machine:
    """The states of a rule in the order of the walk, with the states behind each one. It never changes."""

    def __init__(self, rule, *, bound=64):
        check_number(bound, 1, MOST_BOUND, "bound")
        self._rows = tuple(machine_rows(rule, bound))

    def states(self):
        """The list of the states."""
        return [state for state, _, _ in self._rows]

    @property
    def many(self):
        """The number of states."""
        return len(self._rows)

    def place_of(self, state):
        """The number of the equal state, or None."""
        for place, row in enumerate(self._rows):
            if row[0] == state:
                return place
        return None

    def __iter__(self):
        return iter(self._rows)


def machine_rows(rule, bound):
    """The tuples of a state and the numbers of the states after a heard and after a lost beat."""
    states = [rule.first_state()]
    places = {states[0]: 0}
    rows = []
    while len(rows) < len(states):
        targets = []
        for lost in (0, 1):
            following = rule.after(states[len(rows)], lost)
            if following is not None and following not in places:
                if len(states) == bound:
                    raise TooLarge(bound)
                places[following] = len(states)
                states.append(following)
            targets.append(None if following is None else places[following])
        rows.append((states[len(rows)], targets[0], targets[1]))
    return rows


def counted_states(rule, beats):
    """For 0 and each further number of beats, a dict of the states reached and of the patterns that reach them."""
    layers = [{rule.first_state(): 1}]
    for _ in range(beats):
        found = {}
        for state, many in layers[-1].items():
            for lost in (0, 1):
                following = rule.after(state, lost)
                if following is not None:
                    found[following] = found.get(following, 0) + many
        layers.append(found)
    return layers


def count_patterns(rule, beats):
    """The number of patterns of so many beats that keep the rule."""
    check_number(beats, 0, MOST_COUNTED, "beats")
    return sum(counted_states(rule, beats)[-1].values())


def all_patterns(rule, beats):
    """The list of the patterns of so many beats that keep the rule, ascending."""
    check_number(beats, 0, MOST_LISTED, "beats")
    found = [([], rule.first_state())]
    for _ in range(beats):
        longer = [(pattern + [lost], rule.after(state, lost)) for pattern, state in found for lost in (0, 1)]
        found = [(pattern, state) for pattern, state in longer if state is not None]
    return [pattern for pattern, _ in found]


def heard_ahead(rule, beats):
    """For 0 and each further number of beats taken, the least heard beats still to come from each state."""
    layers = counted_states(rule, beats)
    costs = [{state: 0 for state in layers[-1]}]
    for layer in reversed(layers[:-1]):
        costs.append({state: least_ahead(rule, state, costs[-1]) for state in layer})
    return costs[::-1]


def least_ahead(rule, state, later):
    """The least heard beats to come from a state, by those that are to come one beat later."""
    choices = [(rule.after(state, lost), 1 - lost) for lost in (0, 1)]
    return min([later[following] + heard for following, heard in choices if following is not None])


def fewest_heard(rule, beats):
    """The least number of heard beats in a pattern of so many beats that keeps the rule."""
    check_number(beats, 0, MOST_COUNTED, "beats")
    return heard_ahead(rule, beats)[0][rule.first_state()]


def fewest_pattern(rule, beats):
    """The greatest pattern in list order of those that keep the rule with the fewest heard beats."""
    check_number(beats, 0, MOST_COUNTED, "beats")
    costs = heard_ahead(rule, beats)
    state = rule.first_state()
    pattern = []
    for beat in range(beats):
        following = rule.after(state, 1)
        lost = 1 if following is not None and costs[beat + 1][following] == costs[beat][state] else 0
        state = rule.after(state, lost)
        pattern.append(lost)
    return pattern


def compared(rule, other, bound):
    """The pairs of the walk over two rules, and the pattern that breaks the second one, or None."""
    pairs = [(rule.first_state(), other.first_state())]
    seen = {pairs[0]: True}
    # Each pair keeps the pattern that led to it first.
    paths = [[]]
    taken = 0
    while taken < len(pairs):
        state, other_state = pairs[taken]
        for lost in (0, 1):
            following = rule.after(state, lost)
            if following is None:
                continue
            pair = (following, other.after(other_state, lost))
            if pair[1] is None:
                return pairs, paths[taken] + [lost]
            if pair not in seen:
                if len(pairs) == bound:
                    raise TooLarge(bound)
                seen[pair] = True
                pairs.append(pair)
                paths.append(paths[taken] + [lost])
        taken += 1
    return pairs, None


def separating(rule, other, *, bound=400):
    """The first pattern that keeps the first rule and breaks the second one, or None."""
    check_number(bound, 1, MOST_BOUND, "bound")
    return compared(rule, other, bound)[1]


def within_paper(rule, other, *, bound=400):
    """The pairs of the walk if the first rule is within the second one, otherwise None."""
    check_number(bound, 1, MOST_BOUND, "bound")
    pairs, broken = compared(rule, other, bound)
    return pairs if broken is None else None


def is_within(rule, other, paper):
    """Tell whether the first rule is within the second one and the paper has just the pairs of the walk."""
    if not is_list(paper, 1, MOST_BOUND):
        return False
    try:
        pairs, broken = compared(rule, other, MOST_BOUND)
    except TooLarge:
        return False
    if broken is not None or len(paper) != len(pairs) or not alike(paper[0], pairs[0]):
        return False
    found = {}
    for pair in paper:
        if pair not in pairs:
            return False
        place = pairs.index(pair)
        if place in found or not alike(pairs[place], pair):
            return False
        found[place] = True
    return True


def same_patterns(rule, other, *, bound=400):
    """Tell whether each rule is within the other one."""
    check_number(bound, 1, MOST_BOUND, "bound")
    return compared(rule, other, bound)[1] is None and compared(other, rule, bound)[1] is None
