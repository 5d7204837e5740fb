"""[8.3] is_paper(unit, number, thing), refutal(unit, number), is_refutal(unit, number, thing); THE FACT OF PAPERS."""

import unittest

from tests import examine_model
from tests.drawn_programs import drawn
from tests.drawn_units import drawn_unit, level_unit
from tests.told import NO_STRINGS, nested, nested_dict, nested_list, told
from unseenheap.compiling import compiled
from unseenheap.examine import is_paper, is_refutal, refutal, refused, table
from unseenheap.units import Code, Unit

NIL = ("push", ("nil",))
END = (NIL, ("give",))
BEGIN = ("on", 0)
NO_NUMBERS = [odd for odd in NO_STRINGS if isinstance(odd, bool) or not isinstance(odd, int)] + [-1, 10 ** 39, "0", nested(250), nested_list(250)]
NO_PAPERS = [*NO_STRINGS, "paper", nested(250), nested_list(250), nested_dict(250)]


def bare(rows, handlers=(), slots=2):
    return Unit((), (), (), (Code("top", 0, slots, 0, tuple(rows), handlers),))


# A round in which slot 0 is a cell or not, and a row that nobody comes to.
ROUND = bare([("tick",), ("tick",), NIL, ("skip", 9), NIL, ("store", 0), ("cell", 0), ("jump", 1), ("pop",), *END])
# Depth 2 where depth 1 is, too.
MEET = bare([("tick",), NIL, ("skip", 4), NIL, NIL, ("give",)])
# A row that can't be done, and behind another door one that is not well set.
DONE = bare([("tick",), NIL, ("skip", 5), ("add",), ("give",), ("load", 5), ("give",)])
HANDLED = bare([("tick",), NIL, ("pop",), *END, ("pop",), NIL, ("give",)], ((1, 3, 5, 0),))


def put(thing, at, part):
    return (*thing[:at], part, *thing[at + 1:])


class Papers(unittest.TestCase):
    def test_the_table_is_one(self):
        for unit in (ROUND, HANDLED, bare([("tick",), *END])):
            self.assertIs(is_paper(unit, 0, table(unit)[0]), True)
        unit = compiled(drawn(3))
        for number, paper in enumerate(table(unit)):
            self.assertIs(is_paper(unit, number, paper), True)

    def test_unset_in_place_of_a_sort(self):
        paper = table(ROUND)[0]
        for at, state in enumerate(paper):
            if state is not None:
                # Nobody looks at slot 1, but what is unset here must be unset in all rows behind.
                other = put(paper, at, (state[0], (state[1][0], "unset")))
                self.assertIs(is_paper(ROUND, 0, other), at == 10, at)
        all_unset = tuple(state and (state[0], (state[1][0], "unset")) for state in paper)
        self.assertIs(is_paper(ROUND, 0, all_unset), True)
        last = put(paper, 10, (1, ("unset", "unset")))
        self.assertIs(is_paper(ROUND, 0, last), True)
        self.assertIs(is_paper(ROUND, 0, put(all_unset, 6, (0, ("unset", "unset")))), False)

    def test_a_sort_in_place_of_unset(self):
        paper = table(ROUND)[0]
        for at, state in enumerate(paper):
            if state is not None and state[1][0] == "unset":
                for sort in ("value", "cell"):
                    self.assertIs(is_paper(ROUND, 0, put(paper, at, (state[0], (sort, "value")))), False, (at, sort))

    def test_another_depth(self):
        paper = table(ROUND)[0]
        for at, state in enumerate(paper):
            if state is not None:
                for depth in (state[0] + 1, state[0] - 1, state[0] + 10 ** 39):
                    self.assertIs(is_paper(ROUND, 0, put(paper, at, (depth, state[1]))), False)

    def test_none_where_a_state_must_be(self):
        for unit in (ROUND, HANDLED):
            paper = table(unit)[0]
            for at, state in enumerate(paper):
                if state is not None:
                    self.assertIs(is_paper(unit, 0, put(paper, at, None)), False, at)
        self.assertIs(is_paper(ROUND, 0, (None,) * 11), False)

    def test_a_state_where_none_leads(self):
        paper = table(ROUND)[0]
        self.assertIs(paper[8], None)
        self.assertIs(is_paper(ROUND, 0, put(paper, 8, (1, ("unset", "value")))), True)
        self.assertIs(is_paper(ROUND, 0, put(paper, 8, (1, ("cell", "value")))), True)
        self.assertIs(is_paper(ROUND, 0, put(paper, 8, (0, ("unset", "value")))), False)
        self.assertIs(is_paper(ROUND, 0, put(paper, 8, (2, ("unset", "value")))), False)
        self.assertIs(is_paper(ROUND, 0, put(paper, 8, (1, ("unset", "unset")))), False)
        other = bare([("tick",), *END, ("load", 9), *END])
        paper = table(other)[0]
        self.assertIs(is_paper(other, 0, paper), True)
        self.assertIs(is_paper(other, 0, put(paper, 3, (0, ("value", "value")))), False)

    def test_the_first_state(self):
        unit = bare([("tick",), *END])
        states = [(0, ("value", "value")), (0, ("value", "value")), (1, ("value", "value"))]
        self.assertIs(is_paper(unit, 0, tuple(states)), True)
        unset = [(depth, ("unset", "value")) for depth in (0, 0, 1)]
        self.assertIs(is_paper(unit, 0, tuple(unset)), True)
        self.assertIs(is_paper(unit, 0, tuple([(depth, ("cell", "value")) for depth in (0, 0, 1)])), False)
        self.assertIs(is_paper(unit, 0, tuple([(depth + 1, ("value", "value")) for depth in (0, 0, 1)])), False)

    def test_of_another_length(self):
        paper = table(ROUND)[0]
        for other in (paper[:-1], (*paper, None), (), (*paper, paper[0])):
            self.assertIs(is_paper(ROUND, 0, other), False)

    def test_states_that_are_none(self):
        paper = table(ROUND)[0]
        for odd in ((), (1,), (1, ("unset", "value"), 0), [1, ("unset", "value")], (1, ["unset", "value"]), (1, ("unset",)), (1, ("unset", "value", "value")),
                    (True, ("unset", "value")), ("1", ("unset", "value")), (None, ("unset", "value")), (1, ("none", "value")), (1, (None, "value")),
                    (1, (0, "value")), (1, ("unset", ("value",))), (1, ["unset"]), "ab", 5, True, False, {}, nested(240), (1, nested(240)), (-1, ("unset", "value"))):
            for at in (3, 8):
                self.assertIs(is_paper(ROUND, 0, put(paper, at, odd)), False, (at, odd))

    def test_other_things(self):
        for odd in [*NO_PAPERS, list(table(ROUND)[0]), table(ROUND), {0: table(ROUND)[0]}]:
            self.assertIs(is_paper(ROUND, 0, odd), False)

    def test_of_a_code_that_is_refused(self):
        for unit in (MEET, DONE):
            states = [(depth, ("value", "value")) for depth in (0, 0, 1, 0, 1, 2, 2, 2)][:len(unit.codes[0].rows)]
            self.assertIs(is_paper(unit, 0, tuple(states)), False)

    def test_numbers_that_are_no_codes(self):
        for number in [1, *NO_NUMBERS]:
            self.assertEqual(told(is_paper, ROUND, number, None), ("NoCode",), repr(number)[:50])
            self.assertEqual(told(is_paper, MEET, number, ()), ("NoCode",))
            self.assertEqual(told(is_refutal, ROUND, number, None), ("NoCode",))
            self.assertEqual(told(refutal, ROUND, number), ("NoCode",))
            self.assertEqual(told(refutal, MEET, number), ("NoCode",))


class Refutals(unittest.TestCase):
    def test_of_each_word(self):
        not_set = bare([("tick",), NIL, ("load", 2), ("give",)])
        self.assertIs(is_refutal(not_set, 0, ("set", (BEGIN, ("on", 1), ("on", 2)), None)), True)
        self.assertIs(is_refutal(not_set, 0, ("done", (BEGIN, ("on", 1), ("on", 2)), None)), False)
        self.assertIs(is_refutal(DONE, 0, ("done", (BEGIN, ("on", 1), ("on", 2), ("on", 3)), None)), True)
        self.assertIs(is_refutal(DONE, 0, ("set", (BEGIN, ("on", 1), ("on", 2), ("on", 3)), None)), False)
        self.assertIs(is_refutal(DONE, 0, ("set", (BEGIN, ("on", 1), ("on", 2), ("to", 5)), None)), True)
        one, other = (BEGIN, ("on", 1), ("on", 2), ("to", 4)), (BEGIN, ("on", 1), ("on", 2), ("on", 3), ("on", 4))
        self.assertIs(is_refutal(MEET, 0, ("meet", one, other)), True)
        self.assertIs(is_refutal(MEET, 0, ("meet", other, one)), True)
        self.assertIs(is_refutal(MEET, 0, ("meet", one, one)), False)
        self.assertIs(is_refutal(MEET, 0, ("meet", (*one, ("on", 5)), (*other, ("on", 5)))), True)
        self.assertIs(is_refutal(MEET, 0, ("meet", (*one, ("on", 5)), other)), False)

    def test_of_sorts_of_slots(self):
        unit = bare([("tick",), NIL, ("skip", 4), ("cell", 0), ("load", 0), ("give",)])
        short, long = (BEGIN, ("on", 1), ("on", 2), ("to", 4)), (BEGIN, ("on", 1), ("on", 2), ("on", 3), ("on", 4))
        self.assertIs(is_refutal(unit, 0, ("done", short, None)), False)
        self.assertIs(is_refutal(unit, 0, ("done", long, None)), True)
        self.assertEqual(refutal(unit, 0), ("done", long, None))
        unit = bare([("tick",), NIL, ("skip", 4), ("cell", 0), ("peek", 0), ("give",)])
        self.assertIs(is_refutal(unit, 0, ("done", short, None)), True)
        self.assertIs(is_refutal(unit, 0, ("done", long, None)), False)
        self.assertEqual(refutal(unit, 0), ("done", short, None))

    def test_through_a_round(self):
        unit = bare([("tick",), ("tick",), ("load", 0), ("skip", 6), ("cell", 0), ("jump", 1), NIL, ("give",)])
        way = (BEGIN, ("on", 1), ("on", 2), ("on", 3), ("on", 4), ("on", 5), ("to", 1), ("on", 2))
        self.assertIs(is_refutal(unit, 0, ("done", way, None)), True)
        self.assertIs(is_refutal(unit, 0, ("done", way[:3], None)), False)
        self.assertIs(is_refutal(unit, 0, ("done", (*way, ("on", 3)), None)), False)
        self.assertEqual(refutal(unit, 0), ("done", way, None))

    def test_out_doors(self):
        unit = bare([("tick",), NIL, ("pop",), *END, ("pop",), ("pop",), *END], ((2, 3, 5, 0),))
        way = (BEGIN, ("on", 1), ("on", 2), ("out", 5), ("on", 6))
        self.assertIs(is_refutal(unit, 0, ("done", way, None)), True)
        self.assertIs(is_refutal(unit, 0, ("done", way[:4], None)), False)
        self.assertIs(is_refutal(unit, 0, ("done", (BEGIN, ("on", 1), ("out", 5), ("on", 6)), None)), False)
        self.assertIs(is_refutal(unit, 0, ("done", (BEGIN, ("on", 1), ("on", 2), ("to", 5), ("on", 6)), None)), False)

    def test_steps_left_out_put_in_or_changed(self):
        for unit in (MEET, DONE, bare([("tick",), ("tick",), ("load", 0), ("skip", 6), ("cell", 0), ("jump", 1), NIL, ("give",)])):
            word, way, other = refutal(unit, 0)
            for at in range(len(way)):
                self.assertIs(is_refutal(unit, 0, (word, way[:at] + way[at + 1:], other)), False)
                self.assertIs(is_refutal(unit, 0, (word, way[:at] + way[at:at + 1] + way[at:], other)), False)
                for door in ("on", "to", "out", "On", "", None, 0):
                    if door != way[at][0]:
                        self.assertIs(is_refutal(unit, 0, (word, put(way, at, (door, way[at][1])), other)), False)
                for row in (way[at][1] + 1, way[at][1] - 1, 10 ** 39, -1, True, None, "0"):
                    if way[at][1] != row or isinstance(row, bool):
                        self.assertIs(is_refutal(unit, 0, (word, put(way, at, (way[at][0], row)), other)), False)
            self.assertIs(is_refutal(unit, 0, (word, way[:-1], other)), False)
            self.assertIs(is_refutal(unit, 0, (word, (*way, ("on", way[-1][1] + 1)), other)), False)

    def test_the_other_way(self):
        way = (BEGIN, ("on", 1), ("on", 2), ("to", 5))
        for other in ((), way, (BEGIN,), False, 0, "", "None"):
            self.assertIs(is_refutal(DONE, 0, ("set", way, other)), False)
        one = refutal(MEET, 0)[1]
        for other in (None, (), (BEGIN,), [*refutal(MEET, 0)[2]], "way", nested(240)):
            self.assertIs(is_refutal(MEET, 0, ("meet", one, other)), False)
            self.assertIs(is_refutal(MEET, 0, ("meet", other, one)), False)

    def test_things_that_are_none(self):
        good = refutal(DONE, 0)
        for odd in [*NO_PAPERS, list(good), good[:2], (*good, None), (*good[:1], list(good[1]), None), ("Set", *good[1:]), (None, *good[1:]), (0, *good[1:]),
                    (["done"], *good[1:]), ("done", (), None), ("done", None, None), ("set", (("on", False),), None), ("set", (["on", 0],), None),
                    ("set", (("to", 0),), None), ("set", (("on", 1),), None), ("set", (("on", 0, 0),), None), ("set", ("on", 0), None), ("set", BEGIN, None),
                    ("done", (*good[1][:-1], (*good[1][-1], 0)), None), ("done", (BEGIN, ("on", 1, 1), ("on", 2), ("on", 3)), None),
                    ("done", (BEGIN, ("on",), ("on", 2), ("on", 3)), None), ("done", (BEGIN, "on", ("on", 2), ("on", 3)), None),
                    ("done", (BEGIN, (1, "on"), ("on", 2), ("on", 3)), None), ("done", (BEGIN, (None, 1), ("on", 2), ("on", 3)), None)]:
            self.assertIs(is_refutal(DONE, 0, odd), False, repr(odd)[:60])

    def test_ways_go_through_no_row_that_is_not_well_set(self):
        for row in (("text", 5), ("name", 0), ("new", 0), ("see", 0), ("fun", 0, ()), ("load", 2), ("fun", 1, ((0, 9),))):
            unit = bare([("tick",), row, ("pop",), ("pop",), *END])
            way = (BEGIN, ("on", 1), ("on", 2), ("on", 3))
            self.assertIs(is_refutal(unit, 0, ("done", way, None)), False, row)
            self.assertIs(is_refutal(unit, 0, ("set", way[:2], None)), True, row)
            self.assertIs(is_refutal(unit, 0, ("set", way, None)), False, row)
            self.assertEqual(refutal(unit, 0), ("set", way[:2], None))
        unit = bare([("tick",), ("load", 0), ("pop",), ("pop",), *END])
        self.assertIs(is_refutal(unit, 0, ("done", (BEGIN, ("on", 1), ("on", 2), ("on", 3)), None)), True)

    def test_flags_in_the_place_of_rows(self):
        unit = bare([("tick",), ("pop",), *END])
        self.assertIs(is_refutal(unit, 0, ("done", (BEGIN, ("on", 1)), None)), True)
        self.assertIs(is_refutal(unit, 0, ("done", (BEGIN, ("on", True)), None)), False)
        self.assertIs(is_refutal(unit, 0, ("done", (("on", False), ("on", 1)), None)), False)

    def test_a_wrong_first_row(self):
        unit = bare(END)
        self.assertEqual(refutal(unit, 0), ("set", (BEGIN,), None))
        self.assertIs(is_refutal(unit, 0, ("set", (BEGIN,), None)), True)
        self.assertIs(is_refutal(unit, 0, ("done", (BEGIN,), None)), False)

    def test_none_of_a_code_that_is_not_refused(self):
        for unit in (ROUND, HANDLED):
            self.assertIs(refutal(unit, 0), None)
            for thing in (("set", (BEGIN,), None), ("done", (BEGIN, ("on", 1)), None), ("meet", (BEGIN, ("on", 1)), (BEGIN, ("on", 1)))):
                self.assertIs(is_refutal(unit, 0, thing), False)

    def test_of_the_code_that_is_asked(self):
        good, bad = Code("f", 0, 0, 0, (("tick",), *END), ()), Code("g", 0, 0, 0, (("tick",), ("pop",), *END), ())
        unit = Unit((), (), (), (good, bad, good, bad))
        self.assertEqual([refutal(unit, number) is None for number in range(4)], [True, False, True, False])
        self.assertEqual([is_refutal(unit, number, refutal(unit, 1)) for number in range(4)], [False, True, False, True])

    def test_at_great_depths(self):
        unit = bare([("tick",), *[NIL] * 40001, ("give",)])
        found = refutal(unit, 0)
        self.assertEqual((found[0], len(found[1]), found[1][-1]), ("done", 40002, ("on", 40001)))
        self.assertIs(is_refutal(unit, 0, found), True)


class Facts(unittest.TestCase):
    def test_just_one_is_there(self):
        words = {"set": 0, "done": 0, "meet": 0, None: 0}
        for seed in range(2500):
            for unit in (drawn_unit(seed), level_unit(seed)):
                for number, code in enumerate(unit.codes):
                    at, paper = examine_model.table_of(unit, code)
                    found = refutal(unit, number)
                    self.assertIn(examine_model.has_refutal(unit, code), (None, found is not None))
                    words[found and found[0]] += 1
                    if found is None:
                        self.assertIs(at, None)
                        self.assertIs(is_paper(unit, number, paper), True)
                    else:
                        self.assertIsNot(at, None)
                        self.assertIs(is_refutal(unit, number, found), True)
                        self.check(unit, code, found)
        self.assertGreater(min(words.values()), 300)

    def check(self, unit, code, found):
        """As is_refutal, told a second time."""
        word, way, other = found
        row, state = examine_model.end_of(unit, code, way)
        if word == "meet":
            other_row, other_state = examine_model.end_of(unit, code, other)
            self.assertEqual(row, other_row)
            self.assertNotEqual(state[0], other_state[0])
        else:
            self.assertIs(other, None)
            self.assertIs(examine_model.well_set(unit, code, row), word == "done")
            if word == "done":
                self.assertIs(examine_model.can_be_done(code, row, state), False)

    def test_the_tables_states_fit_those_of_every_right_paper(self):
        """A right paper that differs from the table in one place has "unset" there, or a state where None is."""
        for seed in range(300):
            unit = level_unit(seed)
            if refused(unit) is not None:
                continue
            paper = table(unit)[0]
            for at, state in enumerate(paper):
                for sort in ("value", "cell", "unset"):
                    for slot in range(2):
                        if state is not None:
                            other = put(paper, at, (state[0], put(state[1], slot, sort)))
                            if is_paper(unit, 0, other):
                                self.assertIn(sort, (state[1][slot], "unset"))


if __name__ == "__main__":
    unittest.main()
