"""[10.2], [7.2] each row in a machine, with each fault that it throws, over the endless heap and in rooms."""

import unittest

from tests.machine_model import MachineModel
from tests.machine_runs import drawn_deeds, machines_for, outcome_unit, unit_of_rows, with_ticks
from tests.told import told
from unseenheap.compiling import compiled
from unseenheap.examine import refused
from unseenheap.machine import Machine
from unseenheap.reading import read
from unseenheap.rooms import Room
from unseenheap.units import Code, Unit

GREATEST = 2 ** 59 - 1
LEAST = -2 ** 59
NIL = ("push", ("nil",))
TRUE = ("push", ("bool", True))
FALSE = ("push", ("bool", False))
FAULT = ("push", ("fault", "index"))
ROOMS = (Room(8, 300, 0), Room(8, 300, 1), Room(300, 300, 3))


def num(n):
    return ("push", ("int", n))


LIST = (num(5), num(6), ("list", 2))
TEXT = (("text", 1),)
OBJECT = (("new", 1),)
FUNCTION = (("fun", 1, ()),)
TIE = (*LIST, ("weak",))
THREAD = (*FUNCTION, ("spawn",))
ODD = {"int": (num(0),), "nil": (NIL,), "bool": (TRUE,), "fault": (FAULT,), "list": LIST, "text": TEXT, "object": OBJECT, "function": FUNCTION, "tie": TIE,
       "thread": THREAD}


def but(*kinds):
    return [rows for kind, rows in ODD.items() if kind not in kinds]


class Rows(unittest.TestCase):
    def ran(self, unit, most=400):
        """What a unit says, alike in all rooms, with deeds between all rows, and by the model."""
        self.assertIs(refused(unit), None)
        for each in (unit, with_ticks(unit)):
            for seed in (1, 2):
                moments = drawn_deeds(seed, most, 0)
                model = MachineModel(each, moments)
                machines = machines_for(each, moments, ROOMS)
                for ticks in range(most):
                    model.run(ticks)
                    for machine in machines:
                        machine.run(ticks)
                        self.assertEqual(machine.meaning(), model.meaning())
                    if model.is_over():
                        break
                self.assertIs(model.is_over(), True)
                if each is unit:
                    found = machines[0].lines()
                self.assertEqual(machines[-1].lines(), found)
        return found

    def said(self, *rows):
        return self.ran(outcome_unit(*rows))

    def gives(self, line, *rows):
        """What rows lay at last; what lies beneath is let be."""
        self.assertEqual(self.said(*rows), [line], rows)
        both = (num(77), num(78), *rows, ("list", 3), ("dup",), num(0), ("at",), ("say",), ("dup",), num(1), ("at",), ("say",), num(2), ("at",))
        for room in (None, Room(8, 300, 1)):
            machine = Machine(outcome_unit(*both), room, ())
            machine.run(99)
            self.assertEqual(machine.lines(), ["77", "78", line], rows)

    def throws(self, fault, *rows):
        """Rows throw a fault."""
        self.assertEqual(self.said(*rows), ["fault " + fault, "thrown"], rows)

    def test_values_and_their_lines(self):
        for row, line in ((num(0), "0"), (num(-7), "-7"), (num(GREATEST), str(GREATEST)), (num(LEAST), str(LEAST)), (TRUE, "true"), (FALSE, "false"), (NIL, "nil"),
                          *[(("push", ("fault", name)), "fault " + name) for name in "kind index zero overflow field method count deep stuck".split()],
                          (("text", 0), ""), (("text", 1), "ab")):
            self.gives(line, row)
        for rows, line in ((LIST, "list 2"), (OBJECT, "object B"), (FUNCTION, "function f"), (TIE, "tie"), (THREAD, "thread 1"), ((("list", 0),), "list 0"),
                           ((("new", 0),), "object A"), ((("fun", 3, ()),), "function A.m")):
            self.gives(line, *rows)

    def test_texts_with_all_signs(self):
        signs = "".join(chr(code) for code in range(32, 127) if code != 37)
        self.assertEqual(self.ran(outcome_unit(("text", 0), texts=(signs, "x"))), [signs])

    def test_slots_and_cells(self):
        self.gives("nil", ("load", 2))
        self.gives("5", num(5), ("store", 1), ("load", 1))
        self.gives("nil", ("cell", 0), ("peek", 0))
        self.gives("5", num(5), ("store", 0), ("cell", 0), ("peek", 0))
        self.gives("6", ("cell", 0), num(6), ("poke", 0), ("peek", 0))
        self.gives("7", ("cell", 0), num(7), ("store", 0), ("load", 0))
        self.gives("list 2", *LIST, ("store", 0), ("cell", 0), *TEXT, ("pop",), ("peek", 0))

    def test_top_names(self):
        self.gives("nil", ("name", 0))
        self.gives("function f", ("name", 1))
        self.gives("list 2", *LIST, ("keep", 0), ("name", 0))
        self.gives("nil", NIL, ("keep", 1), ("name", 1))

    def test_functions_and_what_they_keep(self):
        rows = (num(1), ("store", 0), ("cell", 0), *LIST, ("store", 1), ("cell", 1), ("fun", 2, ((0, 1), (0, 0))))
        self.gives("function g", *rows)
        for at, line in ((0, "9"), (1, "list 2"), (2, "1")):
            self.gives(line, *rows, num(9), ("call", 1), num(at), ("at",))
        self.gives("4", *rows, num(4), ("poke", 0), num(9), ("call", 1), num(2), ("at",))

    def test_functions_in_functions(self):
        unit = compiled(read("fun f(a) { return fun() { a = a + 1; return fun() { a = a + 1; return [a]; }; }; } var g = f(1); var h = g(); say h()[0]; say g()()[0]; say h()[0];"))
        self.assertEqual(self.ran(unit), ["3", "5", "6"])

    def test_objects(self):
        self.gives("nil", *OBJECT, ("get", "x"))
        self.gives("nil", *OBJECT, ("get", "z"))
        for field in "xyz":
            self.gives("5", *OBJECT, ("dup",), num(5), ("put", field), ("get", field))
            self.gives("list 2", *OBJECT, ("dup",), *LIST, ("put", field), ("get", field))
        self.gives("nil", *OBJECT, ("dup",), num(5), ("put", "y"), ("get", "x"))
        self.throws("field", *OBJECT, ("get", "w"))
        self.throws("field", ("new", 0), ("get", "y"))
        self.throws("field", *OBJECT, num(1), ("put", "m"), NIL)
        self.throws("field", ("new", 0), num(1), ("put", "z"), NIL)
        for rows in but("object"):
            self.throws("kind", *rows, ("get", "x"))
            self.throws("kind", *rows, num(1), ("put", "x"), NIL)

    def test_lists(self):
        self.gives("list 0", ("list", 0))
        self.gives("list 3", num(1), *LIST, NIL, ("list", 3))
        self.gives("list 2", num(1), *LIST, NIL, ("list", 3), num(1), ("at",))
        for at, line in ((0, "5"), (1, "6")):
            self.gives(line, *LIST, num(at), ("at",))
        for at in (2, -1, GREATEST, LEAST):
            self.throws("index", *LIST, num(at), ("at",))
            self.throws("index", *LIST, num(at), NIL, ("putat",), NIL)
            self.throws("index", *TEXT, num(at), ("at",))
        self.throws("index", ("list", 0), num(0), ("at",))
        self.throws("index", ("text", 0), num(0), ("at",))
        self.gives("a", *TEXT, num(0), ("at",))
        self.gives("b", *TEXT, num(1), ("at",))
        self.gives("8", *LIST, ("dup",), num(1), num(8), ("putat",), num(1), ("at",))
        self.gives("ab", *LIST, ("dup",), num(0), *TEXT, ("putat",), num(0), ("at",))
        for rows in but("list", "text"):
            self.throws("kind", *rows, num(0), ("at",))
        for rows in but("list"):
            self.throws("kind", *rows, num(0), NIL, ("putat",), NIL)
        for rows in but("int"):
            self.throws("kind", *LIST, *rows, ("at",))
            self.throws("kind", *TEXT, *rows, ("at",))
            self.throws("kind", *LIST, *rows, NIL, ("putat",), NIL)

    def test_lists_with_themselves(self):
        self.gives("list 1", NIL, ("list", 1), ("dup",), ("store", 0), num(0), ("load", 0), ("putat",), ("load", 0), num(0), ("at",), num(0), ("at",))

    def test_what_asks(self):
        self.gives("2", *LIST, ("len",))
        self.gives("2", *TEXT, ("len",))
        self.gives("0", ("text", 0), ("len",))
        for rows in but("list", "text"):
            self.throws("kind", *rows, ("len",))
        for rows in but("list", "text", "object", "function", "tie"):
            self.throws("kind", *rows, ("weak",))
            self.throws("kind", *rows, ("number",))
        for rows in (LIST, TEXT, OBJECT, FUNCTION, TIE):
            self.gives("tie", *rows, ("weak",))
        for rows in but("tie"):
            self.throws("kind", *rows, ("worth",))
        self.gives("list 2", *TIE, ("worth",))
        self.gives("tie", *TIE, ("weak",), ("worth",))
        # Ahead are two texts, the one that outcome_unit adds, and the function of a top name.
        self.gives("1", ("text", 0), ("number",))
        self.gives("4", ("name", 1), ("number",))
        self.gives("5", *LIST, ("number",))
        self.gives("6", *LIST, ("weak",), ("number",))
        for rows, line in ((num(0),), "0"), ((num(5),), "-5"), ((num(-5),), "5"), ((num(LEAST + 1),), str(GREATEST)), ((num(GREATEST),), str(LEAST + 1)):
            self.gives(line, *rows, ("neg",))
        self.throws("overflow", num(LEAST), ("neg",))
        for rows in but("int"):
            self.throws("kind", *rows, ("neg",))
        for kind, rows in ODD.items():
            self.gives("true" if kind == "nil" else "false", *rows, ("not",))
        self.gives("true", FALSE, ("not",))

    def test_integers(self):
        for a, b in ((7, 2), (-7, 2), (7, -2), (-7, -2), (0, 5), (6, 3), (1, GREATEST), (LEAST, 1), (LEAST, 2), (GREATEST, GREATEST)):
            for word, wanted in (("add", a + b), ("sub", a - b), ("mul", a * b), ("div", a // b), ("rem", a - a // b * b)):
                if LEAST <= wanted <= GREATEST:
                    self.gives(str(wanted), num(a), num(b), (word,))
                else:
                    self.throws("overflow", num(a), num(b), (word,))
            self.gives("true" if a < b else "false", num(a), num(b), ("lt",))
            self.gives("true" if a <= b else "false", num(a), num(b), ("le",))
        self.throws("overflow", num(GREATEST), num(1), ("add",))
        self.throws("overflow", num(LEAST), num(1), ("sub",))
        self.throws("overflow", num(2 ** 30), num(2 ** 29), ("mul",))
        self.throws("overflow", num(LEAST), num(-1), ("div",))
        self.gives("0", num(LEAST), num(-1), ("rem",))
        for a in (0, 1, -1, LEAST, GREATEST):
            self.throws("zero", num(a), num(0), ("div",))
            self.throws("zero", num(a), num(0), ("rem",))
        self.gives("false", num(3), num(3), ("lt",))
        self.gives("true", num(3), num(3), ("le",))

    def test_words_between_two_of_other_kinds(self):
        for word in ("add", "sub", "mul", "div", "rem", "lt", "le"):
            for rows in but("int"):
                self.throws("kind", *rows, num(1), (word,))
                self.throws("kind", num(1), *rows, (word,))
        for word in ("sub", "mul", "div", "rem"):
            self.throws("kind", *TEXT, *TEXT, (word,))
            self.throws("kind", *LIST, *LIST, (word,))
        for word in ("lt", "le"):
            self.throws("kind", *LIST, *LIST, (word,))
        self.throws("kind", *TEXT, *LIST, ("add",))
        self.throws("kind", *LIST, *TEXT, ("add",))
        self.throws("kind", *TEXT, NIL, ("lt",))
        self.throws("kind", *OBJECT, *OBJECT, ("add",))
        # kind goes ahead of zero.
        self.throws("kind", NIL, num(0), ("div",))
        self.throws("kind", num(0), NIL, ("rem",))

    def test_what_is_joined(self):
        self.gives("abab", *TEXT, ("dup",), ("add",))
        self.gives("ab", *TEXT, ("text", 0), ("add",))
        self.gives("", ("text", 0), ("text", 0), ("add",))
        self.gives("list 4", *LIST, ("dup",), ("add",))
        self.gives("list 2", *LIST, ("list", 0), ("add",))
        self.gives("list 2", num(1), *LIST, ("list", 2), *LIST, ("add",), num(1), ("at",))
        self.gives("6", num(1), *LIST, ("list", 2), *LIST, ("add",), num(3), ("at",))

    def test_texts_in_their_order(self):
        for a, b in (("", "a"), ("a", ""), ("a", "ab"), ("b", "ab"), ("ab", "b"), ("A", "a"), ("a ", "a"), ("~", " ")):
            for word in ("lt", "le"):
                unit = outcome_unit(("text", 0), ("text", 1), (word,), texts=(a, b))
                self.assertEqual(self.ran(unit), ["true" if a < b else "false"])
        self.gives("false", *TEXT, *TEXT, ("lt",))
        self.gives("true", *TEXT, *TEXT, ("le",))
        self.gives("true", *TEXT, *TEXT, num(0), ("at",), *TEXT, num(1), ("at",), ("add",), ("le",))

    def test_equality(self):
        kinds = list(ODD.items())
        for kind, rows in kinds:
            for other, more in kinds:
                if kind != other:
                    self.gives("false", *rows, *more, ("eq",))
        for rows in ((num(0),), (NIL,), (TRUE,), (FALSE,), (FAULT,), TEXT):
            self.gives("true", *rows, *rows, ("eq",))
        for rows in (LIST, OBJECT, FUNCTION, TIE, THREAD):
            self.gives("false", *rows, *rows, ("eq",))
            self.gives("true", *rows, ("dup",), ("eq",))
        self.gives("false", num(0), FALSE, ("eq",))
        self.gives("false", num(1), TRUE, ("eq",))
        self.gives("false", TRUE, FALSE, ("eq",))
        self.gives("false", FAULT, ("push", ("fault", "kind")), ("eq",))
        self.gives("true", *TEXT, *TEXT, num(0), ("at",), *TEXT, num(1), ("at",), ("add",), ("eq",))
        self.gives("true", *TIE, ("dup",), ("worth",), ("store", 0), ("worth",), ("load", 0), ("eq",))

    def test_jumps_and_skips(self):
        for row, is_false in ((NIL, True), (FALSE, True), (TRUE, False), (num(0), False), (FAULT, False), (("text", 0), False), (("list", 0), False)):
            unit = unit_of_rows(row, ("skip", 6), num(1), ("say",), ("jump", 8), num(2), ("say",))
            self.assertEqual(self.ran(unit), ["2" if is_false else "1"])

    def test_piles(self):
        self.gives("1", num(1), num(2), ("pop",))
        self.gives("3", num(1), ("dup",), ("dup",), ("list", 3), ("len",))

    def test_calls(self):
        self.gives("7", ("name", 1), ("call", 0))
        self.gives("7", num(1), ("name", 1), ("call", 0), ("store", 0), ("pop",), ("load", 0))
        for rows in but("function"):
            self.throws("kind", *rows, ("call", 0))
            self.throws("kind", *rows, num(1), num(2), ("call", 2))
        self.throws("count", ("name", 1), num(1), ("call", 1))
        self.throws("count", ("fun", 5, ()), num(1), ("call", 1))
        self.throws("count", ("fun", 5, ()), num(1), num(1), num(1), ("call", 3))
        self.gives("nil", ("fun", 5, ()), num(1), num(1), ("call", 2))
        # A method's code may be a function's, too: this is its first argument then.
        self.gives("5", ("fun", 3, ()), num(5), ("call", 1))

    def test_messages(self):
        self.gives("object A", ("new", 0), ("send", "m", 0))
        self.throws("count", ("new", 0), num(1), ("send", "m", 1))
        self.throws("count", *OBJECT, ("send", "m", 0))
        self.throws("method", ("new", 0), ("send", "o", 0))
        self.throws("method", ("new", 0), num(1), ("send", "x", 1))
        for rows in but("object"):
            self.throws("kind", *rows, ("send", "m", 0))
            self.throws("kind", *rows, num(1), ("send", "o", 1))
        self.assertEqual(self.said(*OBJECT, num(1), ("send", "m", 1)), ["list 2", "thrown"])
        self.assertEqual(self.said(*OBJECT, num(1), ("send", "n", 1)), ["list 2", "thrown"])
        self.assertEqual(self.said(("new", 0), num(1), ("send", "n", 1)), ["list 2", "thrown"])

    def test_messages_to_the_elder(self):
        self.gives("object B", *OBJECT, ("up", 1, "m", 0))
        self.gives("5", num(5), ("up", 1, "m", 0))
        self.throws("count", *OBJECT, num(1), ("up", 1, "m", 1))
        self.throws("method", *OBJECT, ("up", 1, "o", 0))
        self.throws("method", *OBJECT, num(1), ("up", 1, "x", 1))

    def test_throws(self):
        for rows in ODD.values():
            line = self.said(*rows)[0]
            self.assertEqual(self.said(*rows, ("throw",), NIL), [line, "thrown"])

    def test_handlers_with_a_depth_above_0(self):
        rows = (num(1), num(2), num(3), num(4), ("list", 1), ("neg",), ("throw",), ("list", 3), ("len",), ("say",))
        for depth in (0, 1, 2, 3):
            # Behind the throw the pile has so many values and the one thrown: others are laid up to three.
            fill = tuple(num(9) for _ in range(2 - depth)) if depth < 3 else ()
            inner = (*rows[:7], ("store", 0), *fill, ("load", 0), ("list", 3 if depth < 3 else 4), ("dup",), num(0), ("at",), ("say",), ("len",), ("say",))
            unit = unit_of_rows(*inner, handlers=((6, 7, 8, depth),))
            self.assertEqual(self.ran(unit), [["9", "3"], ["1", "3"], ["1", "3"], ["1", "4"]][depth])

    def test_the_first_handler_of_whose_rows_it_is_one(self):
        inner = (NIL, ("neg",), ("say",), ("jump", 10), ("say",), num(1), ("say",), ("jump", 10), ("say",), NIL, ("pop",))
        for handlers, lines in ((((2, 3, 5, 0), (1, 4, 9, 0)), ["fault kind", "1"]), (((1, 4, 9, 0), (2, 3, 5, 0)), ["fault kind"]),
                                (((1, 2, 5, 0), (3, 4, 5, 0), (2, 3, 9, 0)), ["fault kind"]), (((0, 3, 5, 0),), ["fault kind", "1"]),
                                (((0, 2, 5, 0), (3, 99, 20, 0)), [])):
            unit = unit_of_rows(*inner, handlers=handlers)
            if refused(unit) is None:
                self.assertEqual(self.ran(unit), lines)

    def test_throws_through_frames(self):
        text = ("fun f(n) { if n == 0 { throw [n]; } var l = [n, f(n - 1)]; return l; } fun g(n) { try { return f(n); } catch e { return [e]; } }"
                " try { f(3); } catch e { say e; } say g(4)[0]; say [g(2), g(0)][1]; f(2);")
        machine = Machine(compiled(read(text)), Room(8, 60, 1), ())
        machine.run(100)
        self.assertEqual((machine.lines(), machine.ends()), (["list 1", "list 1", "list 1"], [("threw", "list 1")]))
        self.assertEqual(self.ran(compiled(read(text))), machine.lines())

    def test_handlers_that_begin_or_end_at_a_call(self):
        """The row that counts for a frame ahead of the last one is its call, not the one that is next."""
        thrower = Code("f", 0, 0, 0, (("tick",), num(9), ("throw",)), ())
        method = Code("A.m", 1, 1, 0, (("tick",), num(9), ("throw",)), ())
        for rows in ((("name", 1), ("call", 0)), (("new", 0), ("send", "m", 0)), (("new", 1), ("up", 1, "m", 0))):
            inner = (*rows, ("say",), ("jump", 6), ("say",), ("tick",))
            for begin, end, is_caught in ((2, 3, True), (1, 3, True), (2, 4, True), (1, 2, False), (3, 4, False), (3, 5, False)):
                unit = Unit((), (("a", None), ("f", 1)), (("A", None, (), (("m", 2),)), ("B", 0, (), ())), (
                    Code("top", 0, 0, 0, (("tick",), *inner, NIL, ("give",)), ((begin, end, 5, 0),)), thrower, method))
                machine = Machine(unit, None, ())
                machine.run(99)
                self.assertEqual((machine.lines(), machine.ends()), (["9"], [("gave", "nil")]) if is_caught else ([], [("threw", "9")]))
                self.assertEqual(self.ran(unit), machine.lines())

    def test_calls_200_deep(self):
        text = "fun f(n) { if n == 0 { return 0; } return f(n - 1) + 1; } say f(198); try { f(199); } catch e { say e; }"
        for room in (None, Room(8, 50, 1)):
            machine = Machine(compiled(read(text)), room, ())
            machine.run(150)
            self.assertEqual(len(machine.meaning()[3][0][1]), 150)
            machine.run(1000)
            self.assertEqual((machine.lines(), machine.is_over()), (["198", "fault deep"], True))

    def test_what_a_row_takes_lives_while_it_makes_a_thing(self):
        """Rooms that just hold what is taken and what is made, and such with one word less."""
        for rows, old, last in (
            ((num(1), num(2), num(3), ("list", 3), ("dup",), ("add",)), 5 + 8, 8),
            ((num(1), ("list", 1), ("list", 1), ("list", 1)), 3 + 3 + 3, 3),
            ((*[num(1)] * 4, ("list", 4), ("weak",)), 6 + 3, 3),
            ((("list", 0), ("list", 0), ("list", 0), ("list", 3)), 2 * 3 + 5, 5),
            ((("new", 1), ("new", 1), ("list", 2)), 6 + 6 + 4, 4),
            ((("list", 0), ("list", 0), ("new", 1)), 2 + 2 + 6, 6),
            ((("list", 0), ("store", 0), ("list", 0), ("store", 1), ("list", 0), ("cell", 0)), 2 + 2 + 2 + 3, 3),
            ((num(1), ("list", 1), ("store", 0), ("cell", 0), ("cell", 1), ("fun", 2, ((0, 0), (0, 1)))), 3 + 3 + 3 + 5, 5),
            ((*[num(1)] * 4, ("list", 4), ("fun", 1, ())), 6 + 3, 3),
        ):
            unit = unit_of_rows(*rows, ("store", 2), texts=(), tops=())
            for room in (Room(8, old, 1), Room(old, old, 0)):
                machine = Machine(unit, room, ())
                machine.run(9)
                self.assertEqual(machine.ends(), [("gave", "nil")])
            machine = Machine(unit, Room(8, old - 1, 1), ())
            self.assertEqual(told(machine.run, 9), ("HeapFull", last), rows)
        for text, old in (("abcdef", 8 + 3), ("abcdefghij", 12 + 3)):
            unit = unit_of_rows(("text", 0), num(2), ("at",), ("say",), texts=(text,), tops=())
            machine = Machine(unit, Room(8, old, 1), ((1, "turn"),))
            machine.run(9)
            self.assertEqual(machine.lines(), ["c"])
            machine = Machine(unit, Room(8, old - 1, 1), ())
            self.assertEqual(told(machine.run, 9), ("HeapFull", 3))

    def test_a_text_of_one_sign(self):
        unit = unit_of_rows(("text", 0), num(0), ("at",), ("say",), texts=("xyz",), tops=())
        for room in (Room(8, 8, 0), Room(8, 8, 1)):
            machine = Machine(unit, room, ((1, "turn"),))
            machine.run(9)
            self.assertEqual(machine.lines(), ["x"])

    def test_60000_signs_and_items(self):
        for made, more, word in (('"a" + "b"', '"a"', "text"), ("[1, 2]", "[1]", "list")):
            text = (f"var t = {made}; while len(t) < 32768 {{ t = t + t; }} var s = {more}; while len(s) < 16384 {{ s = s + s; }} t = t + s;"
                    f" var u = {more}; while len(u) < 8192 {{ u = u + u; }} t = t + u; u = {more}; while len(u) < 2048 {{ u = u + u; }} t = t + u;"
                    f" u = {more}; while len(u) < 512 {{ u = u + u; }} t = t + u; s = {more}; while len(s) < 96 {{ s = s + {more}; }} t = t + s;"
                    f" say len(t); try {{ t = t + {more}; }} catch e {{ say e; }} say len(t); try {{ t + t; }} catch e {{ say e; }}")
            for room in (None, Room(1000, 300000, 3), Room(100000, 200000, 0)):
                machine = Machine(compiled(read(text)), room, ((20, "turn"),))
                machine.run(10 ** 6)
                self.assertEqual(machine.lines(), ["60000", "fault overflow", "60000", "fault overflow"])

    def test_threads(self):
        text = ("fun w(n) { return fun() { yield(); if n == 2 { throw [n]; } return [n]; }; } var a = spawn(w(1)); var b = spawn(w(2));"
                " say join(a)[0]; try { join(b); } catch e { say e[0]; } say join(a)[0]; try { join(b); } catch e { say e[0]; }")
        self.assertEqual(self.ran(compiled(read(text))), ["1", "2", "1", "2"])
        for rows in but("thread"):
            self.throws("kind", *rows, ("join",))
        for rows in but("function"):
            self.throws("kind", *rows, ("spawn",))
        self.throws("count", ("fun", 5, ()), ("spawn",))
        self.throws("count", ("fun", 3, ()), ("spawn",))
        self.gives("7", *THREAD, ("join",))

    def test_threads_that_are_stuck(self):
        text = "var t = nil; t = spawn(fun() { try { join(t); } catch e { say e; return 5; } }); try { say join(t); } catch e { say e; }"
        self.assertEqual(self.ran(compiled(read(text))), ["fault stuck", "fault stuck"])
        text = "var a = nil; var b = nil; a = spawn(fun() { join(b); }); b = spawn(fun() { join(a); }); try { join(a); } catch e { say e; } try { join(b); } catch e { say e; }"
        self.assertEqual(self.ran(compiled(read(text)))[0], "fault stuck")


if __name__ == "__main__":
    unittest.main()
