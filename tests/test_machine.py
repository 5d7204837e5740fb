"""[10.1], [10.3], [11.11] Machine: its errors, what its methods tell, full machines, its layout and counts."""

import unittest

from tests.machine_runs import unit_of_rows
from tests.told import NO_STRINGS, nested, nested_dict, nested_list, told
from unseenheap.compiling import compiled
from unseenheap.errors import HeapError
from unseenheap.layouts import Layout, broken
from unseenheap.machine import Machine
from unseenheap.reading import read
from unseenheap.rooms import Room
from unseenheap.units import Code, Unit

ODD = [*NO_STRINGS, nested(250), nested_list(250), nested_dict(250), "", "room"]
WRONG = unit_of_rows(("pop",))
METHODS = ("ticks", "is_over", "lines", "ends", "made", "meaning", "layout", "counts", "image", "copy")


def machine(text, room=None, moments=(), most=None):
    found = Machine(compiled(read(text)), room, moments)
    if most is not None:
        found.run(most)
    return found


class Errors(unittest.TestCase):
    def test_units_that_are_not_let_by(self):
        for room in (None, Room(8, 8, 0), 5):
            for moments in ((), None, ((0, "switch"),)):
                self.assertEqual(told(Machine, WRONG, room, moments), ("NotLet", 0, 1))
        two = Unit((), (), (), (Code("top", 0, 0, 0, (("tick",), ("push", ("nil",)), ("give",)), ()), Code("f", 0, 0, 0, (("give",),), ())))
        self.assertEqual(told(Machine, two, None, ()), ("NotLet", 1, 0))
        try:
            Machine(two, None, ())
        except HeapError as error:
            self.assertEqual((error.code, error.row), (1, 0))

    def test_rooms_that_are_none(self):
        unit = unit_of_rows()
        for odd in ODD:
            if odd is not None:
                for moments in ((), None, ((0, "switch"),)):
                    self.assertEqual(told(Machine, unit, odd, moments), ("NoRoom",), repr(odd)[:50])
        self.assertEqual(told(Machine, unit, (8, 8, 0), ()), ("NoRoom",))

    def test_moments_that_are_none(self):
        unit = unit_of_rows()
        for room in (None, Room(8, 200, 0), Room(8, 8, 0)):
            for odd in [odd for odd in ODD if not isinstance(odd, tuple)]:
                self.assertEqual(told(Machine, unit, room, odd), ("NoMoments", -1), repr(odd)[:50])
            for odd in ODD:
                self.assertEqual(told(Machine, unit, room, ((1, "turn"), odd)), ("NoMoments", 1))
                self.assertEqual(told(Machine, unit, room, ((1, odd),)), ("NoMoments", 0))
            for moments, at in ((((0, "switch"),), 0), (((2, "young"), (1, "young")), 1), (((True, "young"),), 0), (((1, ("steps", -1)),), 0),
                                (((1, ("steps", 10 ** 9 + 1)),), 0), (((10 ** 9 + 1, "whole"),), 0), (((1, "steps"),), 0), (((1, "gather"),), 0)):
                self.assertEqual(told(Machine, unit, room, moments), ("NoMoments", at))
        self.assertIsInstance(Machine(unit, None, ((1, "young"), (1, ("steps", 10 ** 9)), (10 ** 9, "turn"))), Machine)

    def test_texts_and_functions_that_do_not_fit(self):
        # Texts take 2, 4 and 5 words, the functions of two top names 3 each.
        unit = unit_of_rows(texts=("", "ab", "abc"), tops=(("f", 1), ("n", None), ("h", 5)))
        for young in (8, 9):
            self.assertEqual(told(Machine, unit, Room(young, 9, 0), ()), ("HeapFull", 5))
            self.assertEqual(told(Machine, unit, Room(young, 11, 0), ()), ("HeapFull", 3))
            self.assertEqual(told(Machine, unit, Room(young, 16, 0), ()), ("HeapFull", 3))
            self.assertIsInstance(Machine(unit, Room(young, 17, 0), ()), Machine)
        unit = unit_of_rows(texts=("x" * 20,))
        self.assertEqual(told(Machine, unit, Room(8, 21, 0), ()), ("HeapFull", 22))
        self.assertEqual(told(Machine, unit, Room(8, 21, 0), None), ("NoMoments", -1))

    def test_run(self):
        for room in (None, Room(8, 300, 1)):
            found = machine("var i = 0; while i < 5 { i = i + 1; } say i;", room)
            for odd in [*[odd for odd in ODD if isinstance(odd, bool) or not isinstance(odd, int)], -1, 10 ** 6 + 1, 10 ** 39, True, False]:
                self.assertEqual(told(found.run, odd), ("NoNumber",), repr(odd)[:50])
            self.assertEqual(found.ticks(), 0)
            found.run(0)
            self.assertEqual((found.ticks(), found.meaning()[3][0][1][0][1]), (0, 0))
            found.run(3)
            found.run(2)
            self.assertEqual((found.ticks(), found.is_over()), (3, False))
            found.run(10 ** 6)
            self.assertEqual((found.ticks(), found.is_over(), found.lines()), (7, True, ["5"]))
            found.run(10 ** 6)
            self.assertEqual(found.ticks(), 7)


class Told(unittest.TestCase):
    def test_before_anything_is_done(self):
        text = 'class A { x; m() { } } fun f(a) { var b = a; } say "q"; say ""; if true { var c = 1; var d = 2; }'
        for room in (None, Room(8, 300, 1)):
            found = machine(text, room)
            self.assertEqual((found.ticks(), found.is_over(), found.lines(), found.ends(), found.made()), (0, False, [], [None], 3))
            frames = ((0, 0, (("nil",), ("nil",)), ("nil",), ()),)
            self.assertEqual(found.meaning(), (
                0, (), (("thing", 3),), ((("ready",), frames),), (0,), ((1, "text", "q"), (2, "text", ""), (3, "function", (2,)))))

    def test_a_meaning_by_hand(self):
        text = ('class A { x; y; init(v) { this.x = v; } m(p) { yield(); return p; } } fun f(a) { var t = [a, "s"]; return fun() { a = a + 1; return t; }; }'
                " var g = f(5); var o = new A(weak(g)); var w = spawn(g); say 1; say [w, o.m(nil and 1)];")
        for room in (None, Room(8, 300, 1), Room(300, 300, 0)):
            found = machine(text, room, ((4, "switch"),), 5)
            # Tick 1 the top, 2 f, 3 init, 4 m (then the thread goes ahead), 5 the thread's call.
            ticks, lines, tops, threads, queue, things = found.meaning()
            self.assertEqual((ticks, lines, queue), (5, ("1",), (1, 0)))
            self.assertEqual(tops, (("thing", 2), ("thing", 6), ("thing", 7), ("thread", 1)))
            self.assertEqual(threads[0][0], ("ready",))
            self.assertEqual([frame[0] for frame in threads[0][1]], [0, 2])
            self.assertEqual(threads[0][1][0][4], (("thread", 1),))
            self.assertEqual(threads[0][1][1], (2, 1, (("thing", 7), ("nil",)), ("nil",), ()))
            self.assertEqual(threads[1], (("ready",), ((4, 1, (), ("thing", 6), ()),)))
            self.assertEqual(things, (
                (1, "text", "s"), (2, "function", (3,)), (3, "cell", (("int", 5),)), (4, "list", (("int", 5), ("thing", 1))),
                (5, "cell", (("thing", 4),)), (6, "function", (4, ("thing", 3), ("thing", 5))), (7, "object", (0, ("thing", 8), ("nil",))), (8, "tie", (("thing", 6),))))
            found.run(6)
            self.assertEqual(found.ends(), [None, ("gave", "list 2")])
            self.assertEqual(found.meaning()[3][1], (("gave", ("thing", 4)), ()))
            found.run(100)
            self.assertEqual((found.is_over(), found.lines(), found.ends()), (True, ["1", "list 2"], [("gave", "nil"), ("gave", "list 2")]))

    def test_threads_that_wait(self):
        text = "fun f() { yield(); throw 5; } var t = spawn(f); spawn(fun() { join(t); }); join(t);"
        for room in (None, Room(8, 300, 1)):
            found = machine(text, room, (), 3)
            _, _, _, threads, queue, _ = found.meaning()
            self.assertEqual([state for state, _ in threads], [("waits", 1), ("ready",), ("ready",)])
            self.assertEqual(queue, (1, 2))
            found.run(4)
            # Thread 1 has thrown; thread 0 goes on behind thread 2, the call of which is counted.
            self.assertEqual([state for state, _ in found.meaning()[3]], [("ready",), ("threw", ("int", 5)), ("ready",)])
            self.assertEqual(found.meaning()[4], (2, 0))
            found.run(100)
            self.assertEqual(found.ends(), [("threw", "5"), ("threw", "5"), ("threw", "5")])
            self.assertEqual([state for state, frames in found.meaning()[3] if frames], [])

    def test_what_is_told_is_new(self):
        found = machine("say 1;", None, (), 9)
        found.lines().append("x")
        found.ends().append("x")
        self.assertEqual((found.lines(), found.ends()), (["1"], [("gave", "nil")]))

    def test_counts(self):
        text = "var i = 0; while i < 20 { var l = [i]; i = i + 1; }"
        self.assertEqual(machine(text, None, ((3, "young"), (4, "turn"), (5, "whole"), (6, "sweep")), 99).counts(), (0, 0, 0, 0, 0))
        self.assertEqual(machine("", Room(8, 9, 0), ((1, "young"), (1, "young"), (1, "turn"), (1, "whole"), (1, "sweep"), (1, ("steps", 5))), 9).counts(),
                         (3, 1, 0, 1, 1))
        found = machine("var a = [1]; var b = [a]; yield(); yield();", Room(8, 90, 0), ((2, "turn"), (2, ("steps", 1)), (3, "turn"), (3, ("steps", 9))), 9)
        self.assertEqual(found.counts(), (1, 1, 2, 0, 0))
        found = machine(text, Room(8, 24, 0), (), 99)
        self.assertEqual(found.counts()[0] > 3, True)
        self.assertEqual(found.copy().counts(), found.counts())

    def test_layout(self):
        self.assertEqual(told(machine("").layout), ("NoRoom",))
        text = 'fun f() { yield(); return ["a"]; } var t = spawn(f); var g = fun(a) { yield(); return a; }; g(["b"]);'
        found = machine(text, Room(8, 200, 1), (), 2)
        layout, rows = found.layout()
        self.assertIsInstance(layout, Layout)
        self.assertEqual(broken(layout), ())
        # Two texts, three top names; thread 0: the top's function and pile, g's slot and function; thread 1: f's function.
        self.assertEqual(rows, (2, 3, 3, 1))
        self.assertEqual([number for number, _ in layout.roots], list(range(9)))
        self.assertEqual(layout.last, found.made())
        found.run(99)
        self.assertEqual(found.layout()[1], (2, 3, 1, 1))

    def test_a_copy_has_the_moments_that_are_to_come(self):
        text = "var t = weak([1]); yield(); yield(); yield(); say worth(t); spawn(fun() { say 2; }); yield(); say 1;"
        for room in (None, Room(8, 60, 1)):
            for ticks in range(7):
                found = machine(text, room, ((1, "sweep"), (3, "young"), (4, "sweep"), (5, "switch")), ticks)
                other = found.copy()
                other.run(99)
                self.assertEqual(other.lines(), ["nil", "2", "1"], ticks)
        found = machine(text, Room(8, 60, 1), ((1, "turn"), (2, "young"), (4, "whole")), 3)
        other = found.copy()
        other.run(99)
        self.assertEqual(other.counts()[3], 1)

    def test_copy(self):
        found = machine("var l = [0]; while l[0] < 9 { l[0] = l[0] + 1; say l[0]; }", Room(8, 60, 1), ((3, "turn"),), 3)
        other = found.copy()
        self.assertIs(type(other), Machine)
        other.run(99)
        self.assertEqual(len(other.lines()), 9)
        self.assertEqual((found.ticks(), len(found.lines())), (3, 1))
        found.run(99)
        self.assertEqual(found.meaning(), other.meaning())
        self.assertEqual(found.layout(), other.layout())


class Full(unittest.TestCase):
    def full(self):
        found = machine("var l = []; while true { l = l + [l, 1]; say len(l); }", Room(8, 40, 1))
        before = found.copy()
        return found, before

    def test_all_methods_raise_the_same_from_now_on(self):
        found, before = self.full()
        self.assertEqual(told(found.run, 1000), ("HeapFull", 12))
        for _ in range(2):
            for name in METHODS:
                self.assertEqual(told(getattr(found, name)), ("HeapFull", 12), name)
            for most in (0, 1000, -1, True, None):
                self.assertEqual(told(found.run, most), ("HeapFull", 12))
        try:
            found.lines()
        except HeapError as error:
            self.assertEqual(vars(error), {"taken": 12})
        self.assertEqual(before.ticks(), 0)
        before.run(5)
        self.assertEqual(before.lines(), ["2", "4", "6"])
        self.assertEqual(told(before.copy().run, 1000), ("HeapFull", 12))
        self.assertEqual(before.lines(), ["2", "4", "6"])

    def test_in_pieces(self):
        found, before = self.full()
        ticks = 0
        while told(found.run, ticks) is None:
            ticks += 1
        self.assertEqual(told(found.run, 0), ("HeapFull", 12))
        before.run(ticks - 1)
        self.assertEqual(before.ticks(), ticks - 1)
        self.assertEqual(told(before.run, ticks), ("HeapFull", 12))

    def test_each_kind_of_making(self):
        ahead = "class A { x; y; z; } var l = []; while len(l) < 10 { l = l + [1]; } "
        for rest, taken in (("[1, 2, 3];", 5), ("new A();", 6), ("fun() { };", 3), ("weak(l);", 3), ('"ab"[0];', 3), ("l + l;", 22), ('"abc" + "def";', 8),
                            ("fun(a) { fun() { a; }; }(5);", 3)):
            lowest = None
            for old in range(12, 90):
                found = told(machine, ahead + rest, Room(8, old, 1), (), 99)
                if isinstance(found, Machine):
                    break
                lowest = found
            self.assertIsInstance(found, Machine)
            self.assertEqual(lowest[0], "HeapFull")
            # One word less than enough: the last thing, or a list of ten that was joined while one of nine lived, has no room.
            self.assertIn(lowest[1], (taken, 12))
            machine(ahead + rest, Room(old, old, 0), (), 99)


if __name__ == "__main__":
    unittest.main()
