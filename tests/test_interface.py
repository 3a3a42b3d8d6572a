"""The names and arguments of the interface, as the document writes them."""

import importlib
import inspect
import unittest

FUNCTIONS = {
    "errors": {
        "check_number": "(value, low, high, argument)",
        "check_element": "(value, size, argument)",
        "check_row": "(row, size, length, argument)",
        "check_matrix": "(rows, size, high, width, argument, *, exact=True)",
        "check_pattern": "(pattern, most, argument, *, exact=False)",
        "check_heard": "(heard, size, most, width, argument)",
    },
    "field": {"generator": "(field)"},
    "poly": {
        "monic": "(poly)",
        "common_divisor": "(a, b)",
        "poly_through": "(field, points)",
        "is_irreducible": "(poly)",
        "told_poly": "(size)",
    },
    "rows": {
        "zero_rows": "(high, width)",
        "unit_rows": "(size)",
        "row_plus": "(field, a, b)",
        "row_times": "(field, factor, a)",
        "product_sum": "(field, a, b)",
        "combine": "(field, width, rows, factors)",
        "product_rows": "(field, inner, width, a, b)",
        "turned": "(width, rows)",
        "beside": "(a, b)",
    },
    "solve": {
        "reduced": "(field, width, rows)",
        "pivots": "(field, width, rows)",
        "rank_of": "(field, width, rows)",
        "base_places": "(field, width, rows)",
        "null_rows": "(field, width, rows)",
        "factors_for": "(field, width, rows, goal)",
        "barrier_for": "(field, width, rows, goal)",
        "solve_or_bar": "(field, width, rows, goal)",
        "dependence": "(field, width, rows)",
        "is_factors": "(field, width, rows, goal, paper)",
        "is_barrier": "(field, width, rows, goal, paper)",
        "is_dependence": "(field, width, rows, paper)",
    },
    "block": {
        "encode_block": "(field, width, rows, letters)",
        "block_words": "(field, width, rows)",
        "least_weight": "(field, width, rows)",
        "solving_rows": "(field, width, rows, pattern)",
        "mends_block": "(field, width, rows, pattern)",
        "is_solving": "(field, width, rows, pattern, paper)",
        "has_greatest_distance": "(field, width, rows)",
        "mends_runs": "(field, width, rows, run)",
        "ring_checks": "(letters, checks)",
        "ring_rows": "(letters, checks)",
        "ring_trail": "(letters, checks)",
    },
    "cauchy": {
        "cauchy_checks": "(field, letters, checks)",
        "cauchy_rows": "(field, letters, checks)",
        "points_rows": "(field, letters, width)",
        "points_solve": "(field, letters, signs, pattern)",
    },
    "patterns": {
        "stretches": "(pattern)",
        "gaps": "(pattern)",
        "heard_beats": "(pattern)",
        "lost_beats": "(pattern)",
        "round_pattern": "(lost, heard, beats)",
        "pattern_text": "(pattern)",
        "read_pattern": "(text)",
    },
    "machine": {
        "count_patterns": "(rule, beats)",
        "all_patterns": "(rule, beats)",
        "fewest_heard": "(rule, beats)",
        "fewest_pattern": "(rule, beats)",
        "separating": "(rule, other, *, bound=400)",
        "within_paper": "(rule, other, *, bound=400)",
        "is_within": "(rule, other, paper)",
        "same_patterns": "(rule, other, *, bound=400)",
    },
    "timecode": {
        "encode_rows": "(code, rows, *, tail=0)",
        "heard_rows": "(code, sent, pattern)",
        "pattern_of": "(heard)",
    },
    "slant": {
        "slant_code": "(field, letters, checks, matrix)",
        "slant_word": "(width, heard, start)",
        "mend_slants": "(field, letters, checks, matrix, heard)",
    },
    "burstmake": {
        "can_make": "(letters, signs, burst, delay)",
        "base_code": "(field, burst, delay)",
        "copies_code": "(field, letters, burst, delay, *, signs=None)",
        "mend_layers": "(making, heard)",
    },
    "bar": {
        "share_of": "(letters, signs)",
        "share_at_most": "(share, other)",
        "best_share": "(burst, delay)",
        "round_counts": "(letters, signs, burst, delay, beats)",
        "bar_paper": "(letters, signs, burst, delay)",
        "is_bar_paper": "(letters, signs, burst, delay, paper)",
    },
    "reason": {
        "determined": "(code, pattern)",
        "told_beats": "(code, pattern)",
        "mends": "(code, delay, pattern)",
        "reason_for": "(code, pattern, beat, place)",
        "is_reason": "(code, pattern, beat, place, paper)",
        "silence_for": "(code, pattern, beat, place)",
        "is_silence": "(code, pattern, beat, place, paper)",
    },
    "judge": {
        "know_first": "(code, delay)",
        "know_after": "(code, delay, known, lost)",
        "stack_of": "(code, delay, known, lost)",
        "yes_table": "(code, rule, delay, *, bound=400)",
        "is_yes": "(code, rule, delay, paper)",
    },
    "shortest": {
        "shortest_failure": "(code, rule, delay, *, bound=400)",
        "is_failure": "(code, rule, delay, paper)",
        "failure_by_all": "(code, rule, delay, beats)",
        "judged": "(code, rule, delay, *, bound=400)",
        "is_judged": "(code, rule, delay, paper)",
    },
    "mender": {
        "run_mender": "(code, delay, heard, *, tail=0)",
        "plain_log": "(code, delay, heard, *, tail=0)",
        "is_log": "(code, delay, heard, tail, paper)",
    },
    "mixed": {
        "mixed_share": "(window, burst, few)",
        "few_code": "(field, window, lost)",
        "mixed_code": "(field, window, burst, few)",
        "mixed_bar_paper": "(letters, signs, window, burst, few, delay)",
        "is_mixed_bar_paper": "(letters, signs, window, burst, few, delay, paper)",
    },
    "relay": {
        "deals": "(bursts, total)",
        "deal_share": "(bursts, delays)",
        "best_deal": "(bursts, total)",
        "best_by_all": "(bursts, total)",
        "is_best_deal": "(bursts, total, paper)",
        "run_chain": "(codes, delays, rows, patterns)",
    },
    "frames": {
        "frame_mark": "(beat, row)",
        "frame_text": "(frame)",
        "read_frame": "(text, size, signs)",
        "deliver": "(texts, arrivals, ticks)",
        "send_all": "(code, delay, rows)",
    },
    "listener": {"play_line": "(code, delay, rows, arrivals, *, slack=0)"},
    "switch": {
        "plan_spans": "(plan)",
        "plan_rule": "(plan, rules)",
        "plan_signs": "(plan, rows)",
        "run_plan": "(plan, rows, pattern)",
    },
    "settle": {
        "most_letters": "(signs, burst, delay)",
        "settle": "(field, letters, signs, burst, delay)",
        "is_settled": "(field, letters, signs, burst, delay, paper)",
        "least_delay": "(code, rule)",
        "greatest_burst": "(code, delay)",
        "all_codes": "(field, letters, signs, memory)",
        "codes_that_mend": "(field, letters, signs, memory, rule, delay)",
    },
    "papers": {
        "code_text": "(code)",
        "read_code": "(text)",
        "stream_text": "(rows)",
        "read_stream": "(text)",
        "log_text": "(log)",
        "read_log": "(text)",
    },
    "script": {"run_script": "(text)"},
}

CLASSES = {
    "errors": {
        "BadNumber": {"__init__": "(self, argument)"},
        "BadShape": {"__init__": "(self, argument)"},
        "BadElement": {"__init__": "(self, argument)"},
        "BadText": {"__init__": "(self, line)"},
        "TooLarge": {"__init__": "(self, bound)"},
        "Clash": {"__init__": "(self, moment)"},
    },
    "field": {
        "Field": {
            "__init__": "(self, size)", "plus": "(self, a, b)", "minus": "(self, a, b)", "times": "(self, a, b)",
            "over": "(self, a, b)", "negated": "(self, a)", "inverse": "(self, a)", "raised": "(self, a, exponent)",
            "order_of": "(self, a)", "digits": "(self, a)", "from_digits": "(self, digits)", "told_parts": "(self)",
            "__contains__": None, "__iter__": None, "__eq__": None, "size": "property", "prime": "property",
            "power": "property",
        },
    },
    "poly": {
        "Poly": {
            "__init__": "(self, field, parts)", "__call__": "(self, x)", "field": "property", "degree": "property",
            "parts": "property", "__add__": None, "__sub__": None, "__mul__": None, "__floordiv__": None,
            "__mod__": None, "__neg__": None, "__eq__": None,
        },
    },
    "solve": {
        "System": {
            "__init__": "(self, field, width)", "learn": "(self, row, value)", "value_of": "(self, goal)",
            "__contains__": None, "rank": "property", "facts": "(self)",
        },
    },
    "rules": {
        "BurstRule": {
            "__init__": "(self, burst, gap)", "burst": "property", "gap": "property", "first_state": "(self)",
            "after": "(self, state, lost)", "first_break": "(self, pattern)", "__contains__": None, "__eq__": None,
        },
        "WindowRule": {
            "__init__": "(self, window, burst, few)", "window": "property", "burst": "property", "few": "property",
            "first_state": "(self)", "after": "(self, state, lost)", "first_break": "(self, pattern)",
            "__contains__": None, "__eq__": None,
        },
    },
    "machine": {
        "Machine": {
            "__init__": "(self, rule, *, bound=64)", "states": "(self)", "many": "property",
            "place_of": "(self, state)", "__iter__": None,
        },
    },
    "timecode": {
        "TimeCode": {
            "__init__": "(self, field, letters, signs, taps)", "field": "property", "letters": "property",
            "signs": "property", "memory": "property", "plain": "property", "tap": "(self, delay)",
            "row_at": "(self, rows, beat)", "fact_rows": "(self, span)", "__eq__": None,
        },
        "Encoder": {
            "__init__": "(self, code)", "push": "(self, letters)", "__call__": "(self, letters)",
            "rest": "(self, tail)", "beat": "property",
        },
    },
    "burstmake": {
        "Making": {
            "__init__": "(self, field, letters, signs, burst, delay)", "field": "property", "letters": "property",
            "signs": "property", "burst": "property", "delay": "property", "multiple": "property",
            "code": "property",
        },
    },
    "mender": {
        "Mender": {
            "__init__": "(self, code, delay)", "hear": "(self, signs, *, tail=False)", "lose": "(self, *, tail=False)",
            "beat": "property", "log": "(self)", "__iter__": None, "mended": "(self)", "open_letters": "(self)",
        },
    },
    "frames": {
        "Sender": {
            "__init__": "(self, code, delay, *, beats)", "push": "(self, letters)", "finish": "(self)",
            "beat": "property",
        },
    },
    "listener": {
        "Listener": {
            "__init__": "(self, code, delay, *, beats, slack=0)", "take": "(self, text)", "tick": "(self)",
            "clock": "property", "settled": "(self)", "played": "(self)", "counts": "(self)",
        },
    },
    "switch": {
        "PlanRule": {
            "__init__": "(self, parts)", "first_state": "(self)", "after": "(self, state, lost)",
            "first_break": "(self, pattern)", "__contains__": None, "__eq__": None, "beats": "property",
        },
    },
    "script": {
        "Desk": {"__init__": "(self)", "do": "(self, line)", "reports": "(self)", "__iter__": None},
    },
}


class Interface(unittest.TestCase):
    def test_functions(self):
        for name, functions in FUNCTIONS.items():
            module = importlib.import_module("mendsontime." + name)
            for function, arguments in functions.items():
                with self.subTest(module=name, function=function):
                    made = getattr(module, function)
                    self.assertEqual(made.__module__, module.__name__)
                    self.assertEqual(str(inspect.signature(made)), arguments)

    def test_classes(self):
        for name, classes in CLASSES.items():
            module = importlib.import_module("mendsontime." + name)
            for own, members in classes.items():
                made = getattr(module, own)
                self.assertEqual(made.__module__, module.__name__)
                for member, form in members.items():
                    with self.subTest(module=name, owner=own, member=member):
                        held = vars(made)[member]
                        if form == "property":
                            self.assertIsInstance(held, property)
                        elif form is not None:
                            self.assertEqual(str(inspect.signature(held)), form)


if __name__ == "__main__":
    unittest.main()
