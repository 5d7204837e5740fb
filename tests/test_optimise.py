"""[9.1] to [9.3] the optimiser: each rule where it can just be used and where it can't, and all of them together."""

import random
import unittest

from tests.drawn_programs import drawn, drawn_moments
from tests.drawn_units import drawn_unit, level_unit, loose_unit, tangled_unit
from tests.machine_runs import unit_of_rows
from tests.optimise_model import all_used, exchanged, with_code
from tests.told import NO_STRINGS, nested, nested_dict, nested_list, told
from unseenheap.compiling import compiled
from unseenheap.errors import HeapError
from unseenheap.examine import is_let, table
from unseenheap.machine import Machine
from unseenheap.optimise import elder_rows, optimised, ruled, rules_at, saved
from unseenheap.reading import read
from unseenheap.rooms import Room
from unseenheap.units import Code, Unit

GREATEST = 2 ** 59 - 1
LEAST = -2 ** 59
NIL = ("push", ("nil",))
TRUE = ("push", ("bool", True))
FALSE = ("push", ("bool", False))
FAULT = ("push", ("fault", "zero"))
END = (NIL, ("give",))
ODD = [*NO_STRINGS, nested(250), nested_list(250), nested_dict(250)]
RULES = ("fold", "drop", "keep", "test", "next", "far", "end", "dead")


def num(n):
    return ("push", ("int", n))


def top(*rows, handlers=(), slots=3):
    """A unit with a top of just these rows behind a tick."""
    return Unit(("", "ab"), (("a", None), ("b", None)), (), (Code("top", 0, slots, 0, (("tick",), *rows), handlers),))


class Rules(unittest.TestCase):
    def used(self, unit, place, rule, rows, handlers=None):
        """The rule can be used there, and then the top has these rows behind its tick."""
        self.assertIn((place, rule), rules_at(unit, 0))
        other = ruled(unit, 0, place, rule)
        self.assertIsInstance(other, Unit)
        self.assertIs(is_let(other), True)
        self.assertEqual(other.codes[0].rows, (("tick",), *rows))
        if handlers is not None:
            self.assertEqual(other.codes[0].handlers, handlers)
        self.assertEqual(with_code(unit, 0, other.codes[0]), other)
        return other

    def unused(self, unit, *pairs):
        """None of these rules can be used at these places."""
        self.assertIs(is_let(unit), True)
        found = rules_at(unit, 0)
        for place, rule in pairs:
            self.assertNotIn((place, rule), found)
            self.assertEqual(told(ruled, unit, 0, place, rule), ("NoRule",))

    def test_fold_of_integers(self):
        for a, b in ((7, 2), (-7, 2), (7, -2), (0, 5), (GREATEST, 1), (LEAST, -1), (2 ** 30, 2 ** 29), (3, 3), (1, 0)):
            for word, wanted in (("add", a + b), ("sub", a - b), ("mul", a * b), ("div", a // b if b else None), ("rem", a - a // b * b if b else None)):
                unit = top(num(a), num(b), (word,), ("give",))
                if wanted is not None and LEAST <= wanted <= GREATEST:
                    self.used(unit, 1, "fold", (num(wanted), ("give",)))
                else:
                    self.unused(unit, (1, "fold"))
            self.used(top(num(a), num(b), ("lt",), ("give",)), 1, "fold", (TRUE if a < b else FALSE, ("give",)))
            self.used(top(num(a), num(b), ("le",), ("give",)), 1, "fold", (TRUE if a <= b else FALSE, ("give",)))

    def test_fold_of_other_values(self):
        values = (num(0), num(1), NIL, TRUE, FALSE, FAULT, ("push", ("fault", "kind")))
        for one in values:
            for other in values:
                for word in ("add", "sub", "mul", "div", "rem", "lt", "le"):
                    if one[1][0] != "int" or other[1][0] != "int":
                        self.unused(top(one, other, (word,), ("give",)), (1, "fold"))
                self.used(top(one, other, ("eq",), ("give",)), 1, "fold", (TRUE if one == other else FALSE, ("give",)))
            self.used(top(one, ("not",), ("give",)), 1, "fold", (TRUE if one in (NIL, FALSE) else FALSE, ("give",)))
            if one[1][0] != "int":
                self.unused(top(one, ("neg",), ("give",)), (1, "fold"))

    def test_fold_of_neg(self):
        for n in (0, 5, -5, GREATEST, LEAST + 1):
            self.used(top(num(n), ("neg",), ("give",)), 1, "fold", (num(-n), ("give",)))
        self.unused(top(num(LEAST), ("neg",), ("give",)), (1, "fold"))

    def test_fold_of_what_is_no_push(self):
        self.unused(top(("load", 0), num(1), ("add",), ("give",)), (1, "fold"), (2, "fold"))
        self.unused(top(num(1), ("load", 0), ("add",), ("give",)), (1, "fold"))
        self.unused(top(num(1), num(2), ("list", 2), ("give",)), (1, "fold"))
        self.unused(top(num(1), num(2), ("dup",), ("eq",), ("give",)), (1, "fold"), (2, "fold"))
        self.unused(top(num(1), ("len",), ("give",)), (1, "fold"))
        self.assertEqual(rules_at(top(num(1), num(2), num(3), ("add",), ("list", 2), ("give",)), 0), [(2, "fold")])
        self.assertEqual(rules_at(top(num(1), num(2), ("neg",), ("list", 2), ("give",)), 0), [(2, "fold")])

    def test_drop(self):
        for row in (NIL, num(1), ("text", 1), ("load", 0), ("name", 1)):
            self.used(top(row, ("pop",), *END), 1, "drop", END)
        self.used(top(("cell", 0), ("peek", 0), ("pop",), *END), 2, "drop", (("cell", 0), *END))
        self.used(top(("load", 0), ("dup",), ("pop",), ("give",)), 2, "drop", (("load", 0), ("give",)))
        kept = Code("fun", 0, 0, 1, (("tick",), ("see", 0), ("pop",), *END), ())
        unit = Unit((), (), (), (Code("top", 0, 1, 0, (("tick",), ("cell", 0), ("fun", 1, ((0, 0),)), ("give",)), ()), kept))
        self.assertEqual(rules_at(unit, 1), [(1, "drop")])
        self.assertEqual(ruled(unit, 1, 1, "drop").codes[1].rows, (("tick",), *END))
        for rows in ((("list", 0), ("pop",), *END), (("load", 0), ("not",), ("pop",), *END), (("load", 0), ("store", 1), *END), (("load", 0), ("say",), *END)):
            self.unused(top(*rows), (1, "drop"), (2, "drop"))

    def test_keep(self):
        for row, other in ((("store", 1), ("load", 1)), (("keep", 1), ("name", 1))):
            self.used(top(NIL, row, other, ("give",)), 2, "keep", (NIL, ("dup",), row, ("give",)))
        for row, other in ((("store", 1), ("load", 0)), (("keep", 1), ("name", 0)), (("store", 1), ("name", 1)), (("keep", 1), ("load", 1)), (("load", 1), ("load", 1))):
            unit = top(NIL, row, other, ("give",))
            self.unused(unit, (2, "keep"))
        unit = top(("cell", 0), ("cell", 1), NIL, ("poke", 0), ("peek", 0), ("give",))
        self.used(unit, 4, "keep", (("cell", 0), ("cell", 1), NIL, ("dup",), ("poke", 0), ("give",)))
        self.unused(top(("cell", 0), ("cell", 1), NIL, ("poke", 0), ("peek", 1), ("give",)), (4, "keep"))
        kept = Code("fun", 0, 0, 2, (("tick",), NIL, ("set", 1), ("see", 1), ("give",)), ())
        begin = Code("top", 0, 1, 0, (("tick",), ("cell", 0), ("fun", 1, ((0, 0), (0, 0))), ("give",)), ())
        unit = Unit((), (), (), (begin, kept))
        self.assertEqual(rules_at(unit, 1), [(2, "keep")])
        self.assertEqual(ruled(unit, 1, 2, "keep").codes[1].rows, (("tick",), NIL, ("dup",), ("set", 1), ("give",)))
        other = Code("fun", 0, 0, 2, (("tick",), NIL, ("set", 1), ("see", 0), ("give",)), ())
        self.assertEqual(rules_at(Unit((), (), (), (begin, other)), 1), [])

    def test_keep_by_its_depth(self):
        for many, can in ((39999, True), (40000, False)):
            rows = (*[("load", 2)] * many, ("store", 1), ("load", 1), ("throw",))
            unit = top(*rows)
            self.assertIs(is_let(unit), True)
            self.assertEqual(rules_at(unit, 0), [(many + 1, "keep")] if can else [])
            if can:
                self.used(unit, many + 1, "keep", (*rows[:many], ("dup",), ("store", 1), ("throw",)))

    def test_test(self):
        for row, is_false in ((NIL, True), (FALSE, True), (TRUE, False), (num(0), False), (FAULT, False)):
            unit = top(row, ("skip", 5), num(1), ("give",), num(2), ("give",))
            if is_false:
                self.used(unit, 1, "test", (("jump", 4), num(1), ("give",), num(2), ("give",)))
            else:
                self.used(unit, 1, "test", (num(1), ("give",), num(2), ("give",)))
        self.unused(top(("load", 0), ("skip", 5), num(1), ("give",), num(2), ("give",)), (1, "test"))
        self.unused(top(NIL, ("not",), ("skip", 5), ("tick",), *END), (1, "test"))

    def test_next(self):
        self.used(top(("jump", 2), *END), 1, "next", END)
        self.used(top(NIL, ("skip", 3), *END), 2, "next", (NIL, ("pop",), *END))
        self.unused(top(("jump", 3), ("tick",), *END), (1, "next"))
        self.unused(top(NIL, ("skip", 4), ("tick",), *END), (2, "next"))
        # A jump to a tick ahead of it leads to no next row.
        self.unused(top(("load", 0), ("skip", 4), ("jump", 0), *END), (3, "next"))

    def test_far(self):
        self.used(top(("jump", 3), ("tick",), ("jump", 5), ("tick",), *END), 1, "far", (("jump", 5), ("tick",), ("jump", 5), ("tick",), *END))
        unit = top(("load", 0), ("skip", 4), ("tick",), ("jump", 6), ("tick",), *END)
        self.used(unit, 2, "far", (("load", 0), ("skip", 6), ("tick",), ("jump", 6), ("tick",), *END))
        unit = top(("load", 0), ("skip", 4), ("tick",), ("jump", 0))
        self.used(unit, 2, "far", (("load", 0), ("skip", 0), ("tick",), ("jump", 0)))
        self.unused(top(("jump", 3), ("tick",), ("load", 0), ("skip", 5), *END), (1, "far"))

    def test_jumps_to_themselves_are_dead(self):
        unit = top(("jump", 5), ("jump", 2), ("jump", 4), ("jump", 3), *END)
        self.assertEqual([rule for place, rule in rules_at(unit, 0) if place in (2, 3, 4)], ["dead"] * 3)
        self.unused(unit, (2, "far"), (3, "far"), (4, "far"), (2, "next"), (3, "next"))
        self.assertEqual(optimised(unit).codes[0].rows, (("tick",), *END))

    def test_end(self):
        unit = top(num(1), ("jump", 5), num(2), ("pop",), ("give",))
        self.used(unit, 2, "end", (num(1), ("give",), num(2), ("pop",), ("give",)))
        rows = (num(1), ("jump", 4), ("tick",), ("give",), ("tick",), ("give",))
        self.used(top(*rows), 2, "end", (num(1), ("give",), ("tick",), ("give",), ("tick",), ("give",)))
        self.used(top(*rows, handlers=((1, 5, 6, 0),)), 2, "end", (num(1), ("give",), ("tick",), ("give",), ("tick",), ("give",)), ((1, 5, 6, 0),))
        for handlers in (((2, 3, 6, 0),), ((4, 5, 6, 0),), ((1, 5, 6, 0), (1, 3, 6, 0)), ((2, 3, 6, 0), (4, 5, 6, 0))):
            self.unused(top(*rows, handlers=handlers), (2, "end"))
        self.unused(top(num(1), ("skip", 4), ("tick",), NIL, ("give",)), (2, "end"))
        self.unused(top(num(1), ("jump", 3), ("throw",)), (2, "end"))

    def test_dead(self):
        unit = top(("jump", 4), NIL, ("say",), *END)
        self.assertEqual(rules_at(unit, 0), [(2, "dead"), (3, "dead")])
        self.used(unit, 2, "dead", (("jump", 3), ("say",), *END))
        self.used(unit, 3, "dead", (("jump", 3), NIL, *END))
        unit = top(*END, ("skip", 99), ("load", 1000), ("pop",))
        self.assertEqual(rules_at(unit, 0), [(3, "dead"), (4, "dead"), (5, "dead")])
        self.assertEqual(optimised(unit).codes[0].rows, (("tick",), *END))
        # What is dead is used by no other rule.
        unit = top(*END, num(1), ("pop",), num(1), num(1), ("add",), NIL, ("skip", 1), ("jump", 11))
        self.assertEqual({rule for _, rule in rules_at(unit, 0)}, {"dead"})

    def test_blocks_with_a_row_to_which_something_goes_on(self):
        # A jump, a skip, a dead jump, a handler goes on at the second row.
        self.unused(top(("load", 0), ("skip", 5), NIL, ("jump", 6), NIL, ("pop",), *END), (5, "drop"))
        self.unused(top(num(5), ("load", 0), ("skip", 6), num(1), ("store", 0), num(2), ("add",), ("give",)), (6, "fold"))
        unit = top(("load", 0), ("load", 0), ("skip", 5), ("not",), ("not",), ("give",))
        self.unused(unit, (4, "fold"))
        unit = top(("load", 0), ("store", 1), ("load", 1), ("give",), ("jump", 3))
        self.assertEqual(rules_at(unit, 0), [(5, "dead")])
        self.assertEqual(rules_at(ruled(unit, 0, 5, "dead"), 0), [(2, "keep")])
        unit = top(("load", 0), ("store", 1), ("load", 1), ("give",), ("skip", 2))
        self.assertEqual(rules_at(unit, 0), [(2, "keep"), (5, "dead")])
        unit = top(("load", 0), ("store", 1), ("load", 1), ("give",), handlers=((90, 91, 3, 0),))
        self.assertEqual(rules_at(unit, 0), [])
        unit = top(("load", 0), ("store", 1), ("load", 1), ("give",), handlers=((90, 91, 2, 0),))
        self.assertEqual(rules_at(unit, 0), [(2, "keep")])

    def test_blocks_of_three(self):
        for told_row, can in ((1, True), (2, False), (3, False), (4, True)):
            unit = top(num(1), num(2), ("add",), ("give",), ("jump", told_row))
            self.assertEqual((1, "fold") in rules_at(unit, 0), can)

    def test_blocks_across_the_begin_or_the_end_of_a_handler(self):
        rows = (num(1), num(2), ("add",), ("say",), NIL, ("pop",), *END, ("pop",), *END)
        for begin, end in ((1, 2), (2, 3), (2, 4), (1, 3), (3, 4), (3, 9), (2, 9), (0, 2), (0, 3)):
            self.unused(top(*rows, handlers=((begin, end, 9, 0),)), (1, "fold"))
        for begin, end in ((0, 1), (1, 4), (0, 4), (4, 5), (0, 9), (4, 9)):
            self.assertIn((1, "fold"), rules_at(top(*rows, handlers=((begin, end, 9, 0),)), 0))
        # Handlers one behind another are not the same, alike as they be.
        self.unused(top(*rows, handlers=((1, 2, 9, 0), (2, 4, 9, 0))), (1, "fold"))

    def test_several_rules_at_one_place(self):
        unit = top(NIL, ("skip", 3), ("jump", 5), NIL, *END)
        self.assertEqual(rules_at(unit, 0), [(1, "test"), (2, "next"), (2, "far"), (4, "dead")])
        unit = top(("load", 0), ("jump", 3), ("jump", 5), ("pop",), ("give",))
        self.assertEqual(rules_at(unit, 0), [(2, "next"), (2, "far"), (3, "end"), (4, "dead")])
        unit = top(num(1), ("not",), ("pop",), num(1), ("pop",), ("jump", 7), *END)
        self.assertEqual(rules_at(unit, 0), [(1, "fold"), (4, "drop"), (6, "next")])

    def test_rows_numbered_anew(self):
        # Rows 3 and 4 are a block: what told 3 tells what came in its place, what told 5 goes with it.
        unit = top(("load", 0), ("skip", 5), ("push", ("int", 3)), ("not",), NIL, ("skip", 3), ("push", ("nil",)), ("give",))
        self.assertIs(is_let(unit), False)
        rows = (("load", 0), ("skip", 4), ("tick",), num(3), ("not",), ("store", 0), ("load", 0), ("skip", 3), *END)
        other = self.used(top(*rows), 4, "fold", (("load", 0), ("skip", 4), ("tick",), FALSE, ("store", 0), ("load", 0), ("skip", 3), *END))
        self.used(other, 5, "keep", (("load", 0), ("skip", 4), ("tick",), FALSE, ("dup",), ("store", 0), ("skip", 3), *END))
        rows = (("load", 0), ("skip", 4), ("tick",), num(3), ("pop",), ("load", 0), ("skip", 3), *END)
        self.used(top(*rows), 4, "drop", (("load", 0), ("skip", 4), ("tick",), ("load", 0), ("skip", 3), *END))

    def test_what_told_a_row_beyond_the_last_one(self):
        unit = top(num(3), ("pop",), *END, ("jump", 6), ("skip", 99), ("jump", 7), handlers=((9, 20, 30, 1), (40, 50, 8, 2), (5, 30, 0, 0)))
        self.assertIs(is_let(unit), True)
        self.used(unit, 1, "drop", (*END, ("jump", 4), ("skip", 97), ("jump", 5)), ((7, 18, 28, 1), (38, 48, 6, 2), (3, 28, 0, 0)))

    def test_what_told_a_row_that_is_gone_at_the_end(self):
        unit = top(*END, ("jump", 4), ("pop",), handlers=((20, 21, 4, 0),))
        other = ruled(unit, 0, 4, "dead")
        self.assertEqual((other.codes[0].rows, other.codes[0].handlers), ((("tick",), *END, ("jump", 4)), ((19, 20, 4, 0),)))
        other = ruled(unit, 0, 3, "dead")
        self.assertEqual((other.codes[0].rows, other.codes[0].handlers), ((("tick",), *END, ("pop",)), ((19, 20, 3, 0),)))
        self.assertEqual(optimised(unit).codes[0].handlers, ((18, 19, 3, 0),))

    def test_handlers_around_no_row_any_more(self):
        rows = (num(1), ("pop",), ("jump", 5), ("pop",), *END)
        for handlers, left in ((((1, 3, 4, 0),), ()), (((1, 4, 4, 0),), ((1, 2, 2, 0),)), (((0, 3, 4, 0),), ((0, 1, 2, 0),)), (((1, 3, 4, 0), (0, 3, 4, 0)), ((0, 1, 2, 0),)),
                               (((1, 3, 4, 0), (1, 3, 4, 0)), ())):
            unit = top(*rows, handlers=handlers)
            self.used(unit, 1, "drop", (("jump", 3), ("pop",), *END), left)
        # The rows at which it went on are dead then.
        unit = top(*rows, handlers=((1, 3, 4, 0),))
        self.assertEqual(rules_at(ruled(unit, 0, 1, "drop"), 0), [(2, "dead")])
        self.assertEqual(optimised(unit), top(*END))
        # One that goes beyond the last row is gone with the last row that it was around.
        unit = top(*END, ("pop",), handlers=((3, 9, 0, 0), (5, 9, 0, 0)))
        self.assertEqual(ruled(unit, 0, 3, "dead").codes[0].handlers, ((4, 8, 0, 0),))

    def test_ends_of_handlers_go_with_their_rows(self):
        rows = (("tick",), num(1), ("pop",), ("tick",), NIL, ("jump", 8), ("pop",), *END)
        self.assertIs(is_let(top(*rows, handlers=((1, 2, 7, 0),))), False)
        rows = (("tick",), num(1), ("pop",), ("tick",), ("jump", 7), ("pop",), *END)
        for begin, end, left in ((1, 2, (1, 2, 4, 0)), (1, 4, (1, 2, 4, 0)), (2, 4, None), (4, 5, (2, 3, 4, 0)), (2, 5, (2, 3, 4, 0)), (1, 5, (1, 3, 4, 0)), (0, 6, (0, 4, 4, 0))):
            unit = top(*rows, handlers=((begin, end, 6, 0),))
            self.assertEqual(ruled(unit, 0, 2, "drop").codes[0].handlers, () if left is None else (left,))


class Errors(unittest.TestCase):
    def test_units_that_are_not_let_by(self):
        wrong = unit_of_rows(("pop",))
        for call in ((rules_at, wrong, 0), (rules_at, wrong, 99), (rules_at, wrong, None), (ruled, wrong, 0, 1, "drop"), (ruled, wrong, 99, None, None), (optimised, wrong),
                     (saved, wrong), (elder_rows, wrong)):
            self.assertEqual(told(*call), ("NotLet", 0, 1))
        with self.assertRaises(HeapError) as caught:
            optimised(wrong)
        self.assertEqual(vars(caught.exception), {"code": 0, "row": 1})

    def test_codes_that_are_not_there(self):
        unit = unit_of_rows()
        for odd in [*[odd for odd in ODD if isinstance(odd, bool) or not isinstance(odd, int)], -1, 6, 10 ** 39, True, False, "0"]:
            self.assertEqual(told(rules_at, unit, odd), ("NoCode",), repr(odd)[:50])
            self.assertEqual(told(ruled, unit, odd, 0, "dead"), ("NoCode",), repr(odd)[:50])
            self.assertEqual(told(ruled, unit, odd, None, None), ("NoCode",), repr(odd)[:50])
        self.assertEqual(rules_at(unit, 5), [])

    def test_rules_that_are_none(self):
        unit = top(num(1), ("pop",), *END)
        self.assertEqual(rules_at(unit, 0), [(1, "drop")])
        for odd in [*ODD, "", "Drop", "drop ", "fold", "keep", "test", "next", "far", "end", "dead", ("drop",), b"drop", 1]:
            self.assertEqual(told(ruled, unit, 0, 1, odd), ("NoRule",), repr(odd)[:50])
        for odd in [*ODD, 2, 3, 4, 5, 6, -1, -4, 10 ** 39, True, "1", (1,)]:
            if odd != 1 or odd is True:
                self.assertEqual(told(ruled, unit, 0, odd, "drop"), ("NoRule",), repr(odd)[:50])
        self.assertIsInstance(ruled(unit, 0, 1, "drop"), Unit)

    def test_units_are_not_changed(self):
        unit = top(num(1), ("pop",), ("jump", 4), *END, ("pop",))
        before = top(num(1), ("pop",), ("jump", 4), *END, ("pop",))
        for place, rule in rules_at(unit, 0):
            ruled(unit, 0, place, rule)
        optimised(unit)
        self.assertEqual(unit, before)
        rules_at(unit, 0).append("x")
        self.assertEqual(rules_at(unit, 0), rules_at(before, 0))


class All(unittest.TestCase):
    def check(self, unit, seed):
        out, elders, between = all_used(unit)
        found = optimised(unit)
        self.assertEqual(found, out)
        self.assertEqual(elder_rows(unit), elders)
        self.assertEqual(saved(unit), tuple(len(code.rows) - len(new.rows) for code, new in zip(unit.codes, out.codes)))
        self.assertEqual([rules_at(found, number) for number in range(len(found.codes))], [[] for _ in found.codes])
        self.assertEqual(optimised(found), found)
        self.assertEqual(saved(found), (0,) * len(found.codes))
        chance = random.Random(seed)
        for each, number, rules in between:
            self.assertEqual(rules_at(each, number), rules)
            states = table(each)[number]
            for place, rule in chance.sample(rules, min(2, len(rules))):
                code, _ = exchanged(each.codes[number], tuple(range(len(each.codes[number].rows))), states, place, rule)
                other = ruled(each, number, place, rule)
                self.assertEqual(other, with_code(each, number, code))
                self.assertIs(is_let(other), True)
        return {rule for _, _, rules in between for _, rule in rules}

    def test_drawn_units(self):
        seen = set()
        many = 0
        for seed in range(150):
            for unit in (drawn_unit(seed), level_unit(seed), loose_unit(seed), *[tangled_unit(10 * seed + at) for at in range(8)]):
                if is_let(unit):
                    seen |= self.check(unit, seed)
                    many += 1
        self.assertEqual(seen, set(RULES))
        self.assertGreater(many, 1000)

    def test_compiled_programs(self):
        for seed in range(25):
            self.check(compiled(drawn(seed)), seed)

    def test_rules_that_come_behind_others(self):
        """Rules far off that others make: what told a row that is another one now, blocks in which no row is told any more,
        rows ahead that are dead then."""
        ticks = (("tick",),) * 5
        look = (("load", 0), ("skip", 12), ("load", 0), ("skip", 14))
        rest = (("tick",), ("tick",), *END)
        dead = (("pop",),) * 5
        for unit, first, last in (
            # A skip to a push and a skip, which become a jump.
            (top(("load", 0), ("skip", 10), ("load", 0), ("skip", 12), *ticks, NIL, ("skip", 14), *rest), (10, "test"), [(2, "far")]),
            # A skip to what is dropped ahead of a jump.
            (top(("load", 0), ("skip", 10), ("load", 0), ("skip", 13), *ticks, NIL, ("pop",), ("jump", 15), *rest), (10, "drop"), [(2, "far")]),
            # A skip to a row that leads to the next one, behind which a jump stands.
            (top(*look, *ticks, ("tick",), ("tick",), ("jump", 13), ("jump", 16), ("tick",), ("tick",), *END), (2, "far"), None),
            # A dead jump told a row of a block.
            (top(("load", 0), ("store", 1), ("load", 1), ("give",), *dead, ("jump", 3), *dead), (5, "dead"), None),
            (top(("load", 0), ("store", 1), ("load", 1), ("give",), *dead, ("skip", 3), *dead), (5, "dead"), None),
            # A handler around dead rows alone told one.
            (top(("load", 0), ("store", 1), ("load", 1), ("give",), *dead, *dead, *dead, handlers=((6, 12, 3, 0),)), (5, "dead"), None),
            # Rows ahead to which nothing but a jump came that is dead then.
            (top(("jump", 5), ("tick",), num(1), ("say",), ("tick",), NIL, ("skip", 9), ("jump", 2), *END), (6, "test"), None),
            (top(("jump", 5), ("tick",), num(1), ("say",), ("tick",), num(5), ("skip", 10), *END, ("tick",), ("jump", 2)), (6, "test"), None),
            # Two pushes and an add that are parted by what goes behind them.
            (top(num(1), num(2), ("load", 0), ("pop",), ("add",), ("give",)), (3, "drop"), [(1, "fold")]),
            (top(num(1), num(2), ("jump", 4), ("sub",), ("give",)), (3, "next"), [(1, "fold")]),
            # A skip that was led to a row by a rule, in the place of which a jump comes then.
            (top(("load", 0), ("skip", 9), ("load", 0), ("skip", 10), ("load", 0), ("skip", 14), *END, ("jump", 12), num(1),
                 ("give",), FALSE, ("skip", 16), num(2), ("give",), num(3), ("say",), *END), (2, "far"), [(9, "dead")]),
            # A jump to what becomes a give by another rule.
            (top(("load", 0), ("skip", 10), num(1), ("jump", 12), *ticks, num(2), ("tick",), ("jump", 14), ("tick",), ("give",)), (4, "far"), None),
        ):
            self.assertIs(is_let(unit), True)
            self.assertEqual(rules_at(unit, 0)[0], first)
            if last is not None:
                self.assertEqual(rules_at(ruled(unit, 0, *first), 0)[:1], last)
            self.check(unit, 0)

    def test_keep_again_by_its_depth(self):
        for many, times in ((39998, 2), (39999, 1), (40000, 0)):
            loads = 2 if many < 40000 else 0
            unit = top(*[("load", 2)] * many, ("store", 1), *[("load", 1)] * loads, ("throw",))
            self.assertIs(is_let(unit), True)
            found = optimised(unit)
            self.assertIs(is_let(found), True)
            rows = (*[("dup",)] * times, ("store", 1), *[("load", 1)] * (loads - times))
            self.assertEqual(found, top(*[("load", 2)] * many, *rows, ("throw",)))

    def test_each_code_for_itself(self):
        unit = compiled(read("fun f() { return 1 + 2; say 3; } class A { m() { 5; } } say -(2 * 3); fun() { if nil { say 1; } };"))
        self.assertEqual([code.rows for code in optimised(unit).codes], [
            (("tick",), num(-6), ("say",), ("fun", 3, ()), ("pop",), *END), (("tick",), num(3), ("give",)), (("tick",), *END), (("tick",), *END)])
        self.assertEqual(saved(unit), (3, 6, 2, 4))
        self.assertEqual(elder_rows(unit), ((0, 1, 5, 6, 7, 8, 9), (0, 1, 4), (0, 3, 4), (0, 5, 6)))

    def test_nested_uses(self):
        # Folds in folds take the first number; dup and store those of store and load.
        unit = top(num(1), num(2), num(3), ("add",), ("mul",), ("neg",), ("store", 0), ("load", 0), ("give",))
        self.assertEqual(optimised(unit), top(num(-5), ("dup",), ("store", 0), ("give",)))
        self.assertEqual(elder_rows(unit), ((0, 1, 7, 8, 9),))
        unit = top(num(1), ("store", 0), ("load", 0), ("pop",), *END)
        self.assertEqual(rules_at(unit, 0), [(2, "keep"), (3, "drop")])
        self.assertEqual(optimised(unit), top(num(1), ("dup",), ("store", 0), ("pop",), *END))
        self.assertEqual(elder_rows(unit), ((0, 1, 2, 3, 4, 5, 6),))

    def test_very_many_rules(self):
        unit = compiled((("if", ("true",), (("say", ("+", ("number", 1), ("number", 2))),) * 1500, (("say", ("true",)),) * 1500),))
        found = optimised(unit)
        self.assertEqual(found.codes[0].rows, (("tick",), *((num(3), ("say",)) * 1500), *END))
        self.assertEqual(saved(unit), (2 + 2 * 1500 + 1 + 2 * 1500,))


class Machines(unittest.TestCase):
    def elder_meaning(self, meaning, rows, unit):
        """The meaning with the rows told by what they stand behind in the elder unit."""
        ticks, lines, tops, threads, queue, things = meaning
        told_threads = []
        for state, frames in threads:
            told_frames = []
            for code, row, slots, function, pile in frames:
                is_at = row == 0 or unit.codes[code].rows[row][0] == "join" and state[0] == "waits" and len(told_frames) == len(frames) - 1
                elder = rows[code][row] if is_at else rows[code][row - 1] + 1
                told_frames.append((code, elder, slots, function, pile))
            told_threads.append((state, tuple(told_frames)))
        return (ticks, lines, tops, tuple(told_threads), queue, things)

    def test_machines_of_both_mean_the_same(self):
        units = [(seed, compiled(drawn(seed))) for seed in range(60)] + [(seed, loose_unit(seed)) for seed in range(200)] + [(seed, drawn_unit(seed)) for seed in range(300)] + [(seed, tangled_unit(seed)) for seed in range(300)]
        many = 0
        for seed, unit in units:
            if not is_let(unit):
                continue
            moments = drawn_moments(seed, 30)
            new = optimised(unit)
            rows = elder_rows(unit)
            elder = Machine(unit, None, moments)
            for room in (None, Room(8, 3000, seed % 3)):
                one, other = elder.copy(), Machine(new, room, moments)
                for ticks in range(25):
                    one.run(ticks)
                    other.run(ticks)
                    self.assertEqual(self.elder_meaning(other.meaning(), rows, new), one.meaning(), (seed, ticks))
                    self.assertEqual((other.lines(), other.ends(), other.made(), other.is_over()), (one.lines(), one.ends(), one.made(), one.is_over()))
            many += 1
        self.assertGreater(many, 200)


if __name__ == "__main__":
    unittest.main()
