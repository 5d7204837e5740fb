"""[8.1], [8.2] refused(unit), is_let(unit), table(unit); [8.4] stretch(unit, number)."""

import unittest

from tests import examine_model
from tests.drawn_programs import drawn
from tests.drawn_units import drawn_unit, level_unit
from tests.machine_model import MachineModel
from tests.told import NO_STRINGS, nested, nested_dict, nested_list, told
from unseenheap.compiling import compiled
from unseenheap.examine import is_let, refused, stretch, table
from unseenheap.reading import read
from unseenheap.rooms import Room
from unseenheap.units import Code, Unit

NIL = ("push", ("nil",))
END = (NIL, ("give",))
TEXTS, TOPS = ("a", "b"), (("a", None), ("f", 1), ("g", 1))
CLASSES = (("A", None, ("x",), (("m", 2),)), ("B", 0, (), ()))


def unit_of(rows, handlers=(), slots=2, keeps=2, params=0):
    """A unit the code of which with the number 4 has these rows; a tick is put ahead of them, and an end behind."""
    simple = (("tick",), *END)
    return Unit(TEXTS, TOPS, CLASSES, (
        Code("top", 0, 0, 0, simple, ()), Code("f", 0, 0, 0, simple, ()), Code("A.m", 1, 1, 0, simple, ()), Code("k", 0, 0, 2, simple, ()),
        Code("fun", params, slots, keeps, (("tick",), *rows, *END), handlers),
    ))


def bare(rows, handlers=(), slots=2):
    """A unit of one code, code 0, with just these rows."""
    return Unit((), (), (), (Code("top", 0, slots, 0, tuple(rows), handlers),))


def at(unit):
    """The row at which the last code is refused, or None."""
    found = refused(unit)
    assert found is None or found[0] == len(unit.codes) - 1
    assert is_let(unit) is (found is None)
    if len(unit.codes[-1].rows) < 300:
        assert told(table, unit) == (("NotLet", *found) if found is not None else examine_model.table(unit))
        assert found == examine_model.refused(unit)
    return None if found is None else found[1]


class WellSet(unittest.TestCase):
    def test_row_0_is_a_tick(self):
        self.assertEqual(at(bare([("tick",), *END])), None)
        self.assertEqual(at(bare(END)), 0)
        self.assertEqual(at(bare([("jump", 1), ("tick",), *END])), 0)

    def test_slots_that_are_there(self):
        for row in (("load", 1), ("store", 1), ("cell", 1), ("peek", 1), ("poke", 1), ("fun", 3, ((0, 1), (1, 0)))):
            ahead = (("cell", 1),) if row[0] in ("peek", "poke", "fun") else ()
            ahead = (*ahead, NIL) if row[0] in ("store", "poke") else ahead
            behind = (("pop",),) if row[0] in ("load", "peek", "fun") else ()
            self.assertEqual(at(unit_of((*ahead, row, *behind))), None, row)
            row = ("fun", 3, ((0, 2), (1, 0))) if row[0] == "fun" else (row[0], 2)
            self.assertEqual(at(unit_of((*ahead, row, *behind))), len(ahead) + 1, row)
            row = ("fun", 3, ((0, 0), (0, 10 ** 6))) if row[0] == "fun" else (row[0], 10 ** 6)
            self.assertEqual(at(unit_of((("cell", 0), *ahead, row, *behind))), len(ahead) + 2, row)
            if row[0] != "fun":
                self.assertEqual(at(unit_of((*ahead, (row[0], 0), *behind), slots=0)), 2 if row[0] == "store" else 1)

    def test_kept_cells_that_are_there(self):
        self.assertEqual(at(unit_of((("see", 1), ("set", 0)))), None)
        self.assertEqual(at(unit_of((("see", 2), ("pop",)))), 1)
        self.assertEqual(at(unit_of((NIL, ("set", 2)))), 2)
        self.assertEqual(at(unit_of((("see", 0), ("pop",)), keeps=0)), 1)
        self.assertEqual(at(unit_of((("fun", 3, ((1, 1), (1, 1))), ("pop",)))), None)
        self.assertEqual(at(unit_of((("fun", 3, ((1, 1), (1, 2))), ("pop",)))), 1)

    def test_texts_top_names_and_classes_that_are_there(self):
        for good, bad in ((("text", 1), ("text", 2)), (("name", 2), ("name", 3)), (("new", 1), ("new", 2)), (("new", 0), ("new", 10 ** 6))):
            self.assertEqual(at(unit_of((good, ("pop",)))), None)
            self.assertEqual(at(unit_of((bad, ("pop",)))), 1)
        self.assertEqual(at(unit_of((NIL, ("keep", 2)))), None)
        self.assertEqual(at(unit_of((NIL, ("keep", 3)))), 2)

    def test_the_code_of_a_fun(self):
        self.assertEqual(at(unit_of((("fun", 1, ()), ("pop",)))), None)
        self.assertEqual(at(unit_of((("fun", 2, ()), ("pop",)))), None)
        self.assertEqual(at(unit_of((("fun", 0, ()), ("pop",)))), 1)
        self.assertEqual(at(unit_of((("fun", 5, ()), ("pop",)))), 1)
        self.assertEqual(at(unit_of((("fun", 1, ((1, 0),)), ("pop",)))), 1)
        self.assertEqual(at(unit_of((("fun", 3, ((1, 0),)), ("pop",)))), 1)
        self.assertEqual(at(unit_of((("fun", 3, ((1, 0), (1, 1), (1, 1))), ("pop",)))), 1)
        self.assertEqual(at(unit_of((("fun", 3, ()), ("pop",)))), 1)
        self.assertEqual(at(unit_of((("fun", 4, ((1, 0), (1, 1))), ("pop",)))), None)

    def test_the_class_of_an_up_has_an_elder(self):
        self.assertEqual(at(unit_of((NIL, ("up", 1, "m", 0), ("pop",)))), None)
        self.assertEqual(at(unit_of((NIL, ("up", 0, "m", 0), ("pop",)))), 2)
        self.assertEqual(at(unit_of((NIL, ("up", 2, "m", 0), ("pop",)))), 2)

    def test_names_that_are_nowhere_are_no_matter(self):
        self.assertEqual(at(unit_of((NIL, ("get", "nowhere"), ("send", "nothing", 0), ("up", 1, "none", 0), ("pop",)))), None)

    def test_jumps(self):
        self.assertEqual(at(bare([("tick",), ("jump", 0)])), None)
        self.assertEqual(at(bare([("tick",), ("jump", 2), *END])), None)
        self.assertEqual(at(bare([("tick",), ("jump", 3), ("pop",), *END])), None)
        self.assertEqual(at(bare([("tick",), ("jump", 1)])), 1)
        self.assertEqual(at(bare([("tick",), ("jump", 4), *END])), 1)
        self.assertEqual(at(bare([("tick",), ("jump", 10 ** 6), *END])), 1)
        self.assertEqual(at(bare([("tick",), NIL, ("pop",), ("jump", 1)])), 3)
        self.assertEqual(at(bare([("tick",), NIL, ("pop",), ("tick",), ("jump", 3)])), None)
        self.assertEqual(at(bare([("tick",), NIL, ("pop",), ("tick",), ("jump", 2)])), 4)

    def test_skips(self):
        self.assertEqual(at(bare([("tick",), NIL, ("skip", 0), *END])), None)
        self.assertEqual(at(bare([("tick",), NIL, ("skip", 3), *END])), None)
        self.assertEqual(at(bare([("tick",), NIL, ("skip", 4), NIL, NIL, ("give",)])), 3)
        self.assertEqual(at(bare([("tick",), NIL, ("skip", 5), *END])), 2)
        self.assertEqual(at(bare([("tick",), NIL, ("skip", 1), *END])), 2)
        self.assertEqual(at(bare([("tick",), NIL, ("skip", 2), *END])), 2)
        self.assertEqual(at(bare([("tick",), NIL, ("skip", 0)])), 2)

    def test_there_is_a_next_row(self):
        for rows in ([("tick",)], [("tick",), NIL], [("tick",), NIL, ("pop",)], [("tick",), NIL, ("say",)]):
            self.assertEqual(at(bare(rows)), len(rows) - 1)
        for rows in ([("tick",), ("jump", 0)], [("tick",), NIL, ("give",)], [("tick",), NIL, ("throw",)]):
            self.assertEqual(at(bare(rows)), None)

    def test_where_handlers_go_on(self):
        rows = [("tick",), NIL, ("pop",), NIL, ("give",), ("pop",), *END]
        self.assertEqual(at(bare(rows, ((1, 3, 5, 0),))), None)
        self.assertEqual(at(bare(rows, ((1, 3, 7, 0),))), None)
        self.assertEqual(at(bare(rows, ((1, 3, 8, 0),))), 1)
        self.assertEqual(at(bare(rows, ((2, 3, 8, 0),))), 2)
        self.assertEqual(at(bare(rows, ((1, 3, 10 ** 6, 0),))), 1)
        # A row within the handler's own rows that is no tick.
        self.assertEqual(at(bare(rows, ((1, 6, 5, 0),))), 1)
        self.assertEqual(at(bare(rows, ((1, 10 ** 39, 5, 0),))), 1)
        self.assertEqual(at(bare(rows, ((5, 6, 5, 0),))), None)
        self.assertEqual(at(bare([("tick",), NIL, ("jump", 4), ("pop",), ("tick",), *END], ((4, 5, 3, 0),))), 4)

    def test_a_handler_that_goes_on_at_a_tick_within_or_ahead(self):
        rows = [("tick",), NIL, ("jump", 3), ("tick",), ("pop",), ("jump", 0)]
        self.assertEqual(at(bare(rows, ((4, 5, 3, 0),))), None)
        self.assertEqual(at(bare(rows, ((3, 5, 3, 0),))), None)
        self.assertEqual(at(bare(rows, ((3, 99, 3, 0),))), None)
        self.assertEqual(at(bare(rows, ((3, 99, 3, 1),))), 3)
        self.assertEqual(at(bare(rows, ((2, 99, 3, 0),))), None)
        self.assertEqual(at(bare(rows, ((2, 99, 3, 1),))), 2)
        self.assertEqual(at(bare([("tick",), NIL, ("tick",), *END[1:]], ((2, 3, 2, 0),))), None)
        self.assertEqual(at(bare([("tick",), NIL, ("tick",), *END[1:]], ((2, 3, 2, 1),))), 2)

    def test_the_first_of_two_handlers_around_a_row_counts(self):
        rows = [("tick",), NIL, ("pop",), NIL, ("give",), ("pop",), *END]
        self.assertEqual(at(bare(rows, ((1, 3, 5, 0), (1, 3, 99, 7)))), None)
        self.assertEqual(at(bare(rows, ((1, 3, 99, 7), (1, 3, 5, 0)))), 1)
        self.assertEqual(at(bare(rows, ((2, 3, 5, 0), (1, 3, 99, 7)))), 1)
        self.assertEqual(at(bare(rows, ((1, 2, 5, 0), (1, 3, 99, 7)))), 2)
        self.assertEqual(at(bare(rows, ((1, 2, 5, 0), (2, 3, 5, 0), (0, 0 + 3, 5, 0)))), None)

    def test_handlers_around_rows_that_are_not_there(self):
        self.assertEqual(at(bare([("tick",), *END], ((3, 4, 10 ** 6, 10 ** 6), (50, 10 ** 30, 0, 0)))), None)


class Done(unittest.TestCase):
    def test_the_pile_of_just_as_many_values(self):
        for row, many in ((("pop",), 1), (("dup",), 1), (("add",), 2), (("putat",), 3), (("list", 5), 5), (("call", 2), 3), (("send", "m", 2), 3),
                          (("up", 1, "m", 3), 4), (("store", 0), 1), (("poke", 0), 1), (("set", 0), 1), (("keep", 0), 1), (("get", "x"), 1),
                          (("put", "x"), 2), (("at",), 2), (("len",), 1), (("throw",), 1), (("give",), 1), (("say",), 1), (("join",), 1),
                          (("spawn",), 1), (("skip", 30), 1), (("eq",), 2), (("not",), 1)):
            rows = (("cell", 0), *[NIL] * many, row, *[NIL] * 40)
            if row[0] != "skip":
                self.assertEqual(at(unit_of(rows)), None, row)
            rows = (("cell", 0), *[NIL] * (many - 1), row, *[NIL] * 40)
            self.assertEqual(at(unit_of(rows)), many + 1, row)
        self.assertEqual(at(bare([("tick",), ("pop",), *END])), 1)
        self.assertEqual(at(bare([("tick",), ("give",)])), 1)

    def test_depth_40000(self):
        self.assertEqual(at(bare([("tick",), *[NIL] * 40000, ("give",)])), None)
        self.assertEqual(at(bare([("tick",), *[NIL] * 40001, ("give",)])), 40001)
        self.assertEqual(at(bare([("tick",), *[NIL] * 40000, ("dup",), ("give",)])), 40001)
        self.assertEqual(at(bare([("tick",), *[NIL] * 40000, ("not",), ("give",)])), None)
        self.assertEqual(at(bare([("tick",), *[NIL] * 39999, ("dup",), ("give",)])), None)

    def test_slots_with_a_value(self):
        for row in (("load", 0), ("cell", 0)):
            self.assertEqual(at(unit_of((row,))), None)
            self.assertEqual(at(unit_of((("cell", 0), row))), 2)
            self.assertEqual(at(unit_of((("cell", 1), row))), None)
            self.assertEqual(at(unit_of((("cell", 0), NIL, ("store", 0), row))), None)

    def test_slots_with_a_cell(self):
        for row, ahead in ((("peek", 0), ()), (("poke", 0), (NIL,)), (("fun", 3, ((0, 0), (0, 1))), (("cell", 1),)), (("fun", 3, ((0, 1), (0, 0))), (("cell", 1),)),
                           (("fun", 3, ((1, 0), (0, 0))), ())):
            self.assertEqual(at(unit_of((("cell", 0), *ahead, row))), None)
            self.assertEqual(at(unit_of((*ahead, row))), 1 + len(ahead), row)
            self.assertEqual(at(unit_of((("cell", 0), NIL, ("store", 0), *ahead, row))), 4 + len(ahead), row)

    def test_stores_into_any_slot(self):
        self.assertEqual(at(unit_of((("cell", 0), NIL, ("store", 0), ("cell", 0), NIL, ("store", 0), ("load", 0)))), None)

    def test_a_handlers_depth(self):
        def rows(depth, row, ahead=2):
            return bare([("tick",), *[NIL] * ahead, row, ("jump", 6 + ahead), ("throw",), NIL, ("give",), *END], ((1 + ahead, 2 + ahead, 3 + ahead, depth),))

        # Two values are there; pop takes one of them, add two, push none.
        self.assertEqual(at(rows(1, ("pop",))), None)
        self.assertEqual(at(rows(2, ("pop",))), 3)
        self.assertEqual(at(rows(0, ("add",))), None)
        self.assertEqual(at(rows(1, ("add",))), 3)
        self.assertEqual(at(rows(2, NIL)), None)
        self.assertEqual(at(rows(3, NIL)), 3)
        self.assertEqual(at(rows(1, ("not",))), None)
        self.assertEqual(at(rows(2, ("not",))), 3)

    def test_a_handlers_depth_below_40000(self):
        for depth, wanted in ((39999, None), (40000, 40001)):
            rows = [("tick",), *[NIL] * 40000, ("jump", 40002), ("tick",), ("give",), ("throw",)]
            self.assertEqual(at(bare(rows, ((40001, 40002, 40004, depth),))), wanted)


class Tables(unittest.TestCase):
    def test_a_straight_one(self):
        unit = bare([("tick",), NIL, ("store", 1), ("cell", 1), ("peek", 1), ("give",)])
        value, cell = ("value", "value"), ("value", "cell")
        self.assertEqual(table(unit), (((0, value), (0, value), (1, value), (0, value), (0, cell), (1, cell)),))

    def test_rows_that_nobody_comes_to(self):
        for row in (("load", 99), ("pop",), ("jump", 10 ** 6), ("fun", 0, ()), ("text", 9), ("jump", 1), ("up", 5, "m", 0), ("peek", 0)):
            unit = bare([("tick",), ("jump", 3), row, NIL, ("give",), row])
            state = (0, ("value", "value"))
            self.assertEqual(table(unit), ((state, state, None, state, (1, ("value", "value")), None),))
            self.assertEqual(refused(unit), None)

    def test_unlike_sorts_that_meet_are_unset(self):
        rows = [("tick",), NIL, ("skip", 4), ("cell", 0), NIL, ("store", 1), *END]
        unit = bare(rows)
        found = table(unit)[0]
        self.assertEqual([state[1][0] for state in found], ["value"] * 4 + ["unset"] * 4)
        self.assertEqual(at(bare([*rows[:6], ("load", 0), ("give",)])), 6)
        self.assertEqual(at(bare([*rows[:6], ("peek", 0), ("give",)])), 6)
        self.assertEqual(at(bare([*rows[:6], NIL, ("poke", 0), *END])), 7)
        self.assertEqual(at(bare([*rows[:6], ("cell", 0), *END])), 6)
        self.assertEqual(at(bare([*rows[:6], NIL, ("store", 0), ("load", 0), ("give",)])), None)

    def test_unlike_depths_that_meet(self):
        self.assertEqual(at(bare([("tick",), NIL, ("skip", 4), NIL, NIL, ("give",)])), 3)
        self.assertEqual(at(bare([("tick",), NIL, ("jump", 0)])), 2)
        self.assertEqual(at(bare([("tick",), NIL, NIL, ("skip", 0), *END])), 3)
        self.assertEqual(at(bare([("tick",), NIL, ("pop",), ("jump", 0)])), None)
        # A row leads by two doors to one row with unlike depths.
        self.assertEqual(at(bare([("tick",), NIL, NIL, ("give",)], ((1, 2, 2, 0),))), None)
        self.assertEqual(at(bare([("tick",), ("tick",), NIL, ("give",)], ((1, 2, 2, 0),))), 1)

    def test_a_handler_joins_the_sorts_of_all_its_rows(self):
        rows = [("tick",), ("cell", 0), NIL, ("pop",), NIL, ("give",), ("peek", 0), ("give",)]
        self.assertEqual(at(bare(rows, ((2, 4, 6, 0),))), None)
        self.assertEqual(at(bare(rows, ((1, 4, 6, 0),))), 6)
        unit = bare([*rows[:6], ("give",)], ((1, 4, 6, 0),))
        self.assertEqual(table(unit)[0][6], (1, ("unset", "value")))
        unit = bare([*rows[:6], ("give",)], ((2, 4, 6, 0),))
        self.assertEqual(table(unit)[0][6], (1, ("cell", "value")))

    def test_the_out_door_has_the_sorts_ahead_of_the_row(self):
        unit = bare([("tick",), ("cell", 0), *END, ("give",)], ((1, 2, 4, 0),))
        self.assertEqual(table(unit)[0][4], (1, ("value", "value")))

    def test_loops_in_which_a_state_changes_again(self):
        rows = [("tick",), ("tick",), NIL, ("skip", 7), NIL, ("store", 0), ("cell", 1), *END]
        unit = bare([*rows[:5], ("cell", 0), ("pop",), ("jump", 1), *END])
        self.assertEqual(refused(unit), (0, 5))
        unit = bare([("tick",), ("tick",), NIL, ("skip", 8), NIL, ("store", 0), ("cell", 0), ("jump", 1), *END])
        self.assertEqual(refused(unit), None)
        found = table(unit)[0]
        self.assertEqual([state[1][0] for state in found], ["value"] + ["unset"] * 5 + ["value", "cell"] + ["unset"] * 2)

    def test_the_least_row_is_looked_at_first(self):
        # Row 4 is wrong as soon as it is come to, row 3 only with the state that comes back to it; row 5 is ahead of neither.
        unit = bare([("tick",), NIL, ("skip", 5), ("load", 9), ("give",), ("pop",), ("give",)])
        self.assertEqual(refused(unit), (0, 3))
        unit = bare([("tick",), NIL, ("skip", 5), ("jump", 6), ("give",), ("pop",), ("give",)])
        self.assertEqual(refused(unit), (0, 5))
        # The loop's row 2 is refused when it is looked at again, ahead of row 6, which is worse but farther on.
        unit = bare([("tick",), ("tick",), ("load", 0), ("skip", 6), ("cell", 0), ("jump", 1), ("pop",), ("give",)])
        self.assertEqual(refused(unit), (0, 2))
        unit = bare([("tick",), ("tick",), ("load", 0), ("skip", 5), ("tick",), ("pop",), ("give",)])
        self.assertEqual(refused(unit), (0, 5))

    def test_the_first_code_that_is_refused(self):
        good, bad = Code("f", 0, 0, 0, (("tick",), *END), ()), Code("g", 0, 0, 0, (("tick",), ("pop",), *END), ())
        worse = Code("h", 0, 0, 0, (("give",),), ())
        self.assertEqual(refused(Unit((), (), (), (good, good, bad, worse))), (2, 1))
        self.assertEqual(refused(Unit((), (), (), (worse, bad))), (0, 0))
        self.assertEqual(told(table, Unit((), (), (), (good, bad, worse))), ("NotLet", 1, 1))
        self.assertIs(is_let(Unit((), (), (), (good, bad))), False)
        self.assertIs(is_let(Unit((), (), (), (good, good))), True)

    def test_tables_of_several_codes(self):
        unit = unit_of((("see", 1), ("pop",)), params=1)
        found = table(unit)
        self.assertEqual([len(rows) for rows in found], [3, 3, 3, 3, 5])
        self.assertEqual(found[2][0], (0, ("value",)))
        self.assertEqual(found[4], tuple((depth, ("value", "value")) for depth in (0, 0, 1, 0, 1)))
        self.assertEqual(found[0], ((0, ()), (0, ()), (1, ())))

    def test_is_let_judges_any_object(self):
        for odd in [*NO_STRINGS, "unit", nested(250), nested_list(250), nested_dict(250), Room(8, 8, 0), Code("f", 0, 0, 0, (("tick",),), ())]:
            self.assertIs(is_let(odd), False)


class Drawn(unittest.TestCase):
    def test_units_of_all_kinds(self):
        let = 0
        for seed in range(2500):
            for unit in (drawn_unit(seed), level_unit(seed)):
                wanted = examine_model.refused(unit)
                self.assertEqual(refused(unit), wanted, seed)
                self.assertIs(is_let(unit), wanted is None)
                if wanted is None:
                    self.assertEqual(table(unit), examine_model.table(unit))
                    let += 1
                else:
                    self.assertEqual(told(table, unit), ("NotLet", *wanted))
        self.assertGreater(let, 800)


class Stretch(unittest.TestCase):
    def test_straight_rows(self):
        self.assertEqual(stretch(bare([("tick",), *END]), 0), 2)
        self.assertEqual(stretch(bare([("tick",), NIL, ("pop",), *END]), 0), 4)
        self.assertEqual(stretch(bare([("tick",), NIL, ("tick",), ("pop",), NIL, ("tick",), ("give",)]), 0), 2)
        self.assertEqual(stretch(bare([("tick",), ("tick",), ("jump", 0)]), 0), 1)

    def test_choices(self):
        self.assertEqual(stretch(bare([("tick",), NIL, ("skip", 4), ("jump", 7), NIL, ("pop",), ("tick",), *END]), 0), 5)
        self.assertEqual(stretch(bare([("tick",), NIL, ("skip", 5), NIL, ("give",), ("tick",), *END]), 0), 4)

    def test_rounds(self):
        # From the begin through a round, and from the look to the end.
        self.assertEqual(stretch(bare([("tick",), NIL, ("pop",), ("tick",), NIL, ("skip", 9), NIL, ("pop",), ("jump", 3), *END]), 0), 5)
        self.assertEqual(stretch(bare([("tick",), NIL, ("skip", 0), ("tick",), NIL, ("skip", 3), *END]), 0), 4)

    def test_handlers(self):
        rows = [("tick",), NIL, ("pop",), ("tick",), *END, ("pop",), NIL, ("pop",), NIL, ("pop",), *END]
        self.assertEqual(stretch(bare(rows), 0), 2)
        self.assertEqual(stretch(bare(rows, ((2, 3, 6, 0),)), 0), 9)
        self.assertEqual(stretch(bare(rows, ((3, 4, 6, 0),)), 0), 7)
        self.assertEqual(stretch(bare(rows, ((1, 3, 6, 0),)), 0), 9)

    def test_rows_that_nobody_comes_to(self):
        self.assertEqual(stretch(bare([("tick",), ("jump", 5), NIL, NIL, NIL, NIL, ("give",)]), 0), 3)

    def test_not_let_ahead_of_no_code(self):
        bad = bare([("tick",), ("pop",), *END])
        for number in (0, 1, None, True):
            self.assertEqual(told(stretch, bad, number), ("NotLet", 0, 1))
        good = unit_of(())
        for number in [5, -1, 10 ** 39, "0", *[odd for odd in NO_STRINGS if isinstance(odd, bool) or not isinstance(odd, int)], nested(250)]:
            self.assertEqual(told(stretch, good, number), ("NoCode",), repr(number)[:50])
        self.assertEqual([stretch(good, number) for number in range(5)], [2] * 5)
        other = unit_of((("pop",),))
        self.assertEqual(told(stretch, other, 0), ("NotLet", 4, 1))

    def test_drawn_units(self):
        for seed in range(1500):
            for unit in (drawn_unit(seed), level_unit(seed)):
                if refused(unit) is None:
                    for number, code in enumerate(unit.codes):
                        self.assertEqual(stretch(unit, number), examine_model.longest(unit, code))

    def test_between_two_ticks_no_call_does_more_rows(self):
        for seed in range(150):
            unit = compiled(drawn(seed))
            most = [stretch(unit, number) for number in range(len(unit.codes))]
            states = table(unit)
            machine = MachineModel(unit, ())
            done = {}

            def watch(frame):
                """The frame is as the table tells, and does no more rows than may be."""
                state = states[frame.number][frame.row]
                self.assertEqual(len(frame.pile), state[0])
                for value, sort in zip(frame.slots, state[1]):
                    if sort != "unset":
                        self.assertEqual(machine.sort(value) == "cell", sort == "cell")
                if frame.code.rows[frame.row][0] == "tick":
                    done.clear()
                else:
                    done[id(frame)] = done.get(id(frame), 0) + 1
                    self.assertLessEqual(done[id(frame)], most[frame.number])

            machine.watch = watch
            machine.run(150)

    def test_a_compiled_program(self):
        unit = compiled(read("while true { if a { say 1; } else { say 2; say 3; } } var a = 1;"))
        self.assertEqual(stretch(unit, 0), examine_model.longest(unit, unit.codes[0]))


if __name__ == "__main__":
    unittest.main()
