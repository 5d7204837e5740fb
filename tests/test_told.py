"""[10.4] told(text, room, moments, most), and the examples of the document."""

import unittest

from tests.drawn_programs import drawn, drawn_moments
from tests.machine_runs import COLLECTING
from tests.told import NO_STRINGS, nested, nested_dict, nested_list
from tests.told import told as outcome
from unseenheap.errors import HeapError
from unseenheap.heaps import Heap
from unseenheap.plain import Plain
from unseenheap.reading import read
from unseenheap.rooms import Room
from unseenheap.showing import show
from unseenheap.told import told

ALL_DEEDS = tuple((tick, deed) for tick in range(1, 200) for deed in (*COLLECTING, "young"))
ROOMS = (None, Room(8, 400, 0), Room(8, 400, 1), Room(400, 400, 3), Room(30, 1000, 1000))


class Examples(unittest.TestCase):
    def test_e01(self):
        self.assertEqual(told("say 1 + 2;", None, (), 100), (["3"], [("gave", "nil")], 1, True))

    def test_e02(self):
        text = "fun f(n) { var k = n; return fun() { k = k + 1; return k; }; } var g = f(5); g(); say g();"
        self.assertEqual(told(text, Room(8, 200, 1), ((1, "turn"), (2, "whole")), 9)[0], ["7"])

    def test_e03(self):
        self.assertEqual(told("try { say nil + 1; } catch x { say x; }", None, (), 9)[0], ["fault kind"])

    def test_e04(self):
        text = "var t = weak([1]); yield(); say worth(t);"
        self.assertEqual(told(text, None, ((2, "sweep"),), 9)[0], ["nil"])
        self.assertEqual(told(text, None, (), 9)[0], ["list 1"])

    def test_e05(self):
        self.assertEqual(read("say -2;"), (("say", ("minus", ("number", 2))),))

    def test_e06(self):
        h = Heap(Room(8, 40, 1))
        a = h.make("list", (("word", 3),))
        h.make("list", (("held", a), ("word", 17)))
        h.drop(a)
        h.gather()
        self.assertEqual(h.meaning(), (((1, ("thing", 2)),), ((1, "list", (("word", 3),)), (2, "list", (("thing", 1), ("word", 17))))))


class Known(unittest.TestCase):
    def check(self, text, lines, moments=()):
        for room in ROOMS:
            for deeds in ((), ALL_DEEDS):
                found = told(text, room, tuple(sorted([*moments, *deeds], key=lambda moment: moment[0])), 10 ** 6)
                self.assertEqual((found[0], found[3]), (lines, True), (room, bool(deeds)))

    def test_programs_known_by_hand(self):
        self.check("fun f(n) { if n < 2 { return n; } return f(n - 1) + f(n - 2); } say f(10);", ["55"])
        self.check("var l = []; var i = 0; while i < 20 { l = l + [i * i]; i = i + 1; } say l[19]; say len(l);", ["361", "20"])
        self.check('var s = ""; var i = 0; while i < 9 { s = s + "ab"[i mod 2]; i = i + 1; } say s;', ["ababababa"])
        self.check("class N { next; at; init(n, a) { this.next = n; this.at = a; } sum() { if this.next == nil { return this.at; } return this.at + this.next.sum(); } }"
                   " var n = nil; var i = 0; while i < 15 { n = new N(n, i); i = i + 1; } say n.sum();", ["105"])
        self.check("class A { v() { return 1; } w() { return this.v(); } } class B of A { v() { return super.v() + 1; } } say new B().w(); say new A().w();", ["2", "1"])
        self.check("var t = spawn(fun() { var i = 0; while i < 4 { i = i + 1; yield(); } return [i]; }); say join(t)[0]; say t;", ["4", "thread 1"])
        self.check("var o = []; try { throw o; } catch e { say e == o; say e == []; }", ["true", "false"])
        self.check("fun c() { var n = 0; return [fun() { n = n + 1; return n; }, fun() { return n; }]; } var a = c(); var b = c(); a[0](); a[0](); b[0](); say a[1](); say b[1]();",
                   ["2", "1"])
        self.check("var t = weak([1]); var s = [2]; var u = weak(s); yield(); say worth(t); say worth(u)[0];", ["nil", "2"], ((2, "sweep"),))
        self.check("spawn(fun() { say 2; }); yield(); say 1;", ["2", "1"], ((2, "switch"),))

    def test_drawn_programs_told_as_by_their_trees(self):
        for seed in range(2000, 2120):
            program = drawn(seed)
            moments = drawn_moments(seed)
            plain = Plain(program, moments)
            most = seed % 50
            plain.run(most)
            wanted = (plain.lines(), plain.ends(), plain.ticks(), plain.is_over())
            for room in (None, Room(8, 2000, seed % 4)):
                self.assertEqual(told(show(program), room, moments, most), wanted)

    def test_most(self):
        text = "say 1; yield(); say 2; yield(); say 3;"
        for room in ROOMS:
            self.assertEqual(told(text, room, (), 0), ([], [None], 0, False))
            self.assertEqual(told(text, room, (), 1), ([], [None], 1, False))
            self.assertEqual(told(text, room, (), 2), (["1"], [None], 2, False))
            self.assertEqual(told(text, room, (), 3), (["1", "2"], [None], 3, False))
            for most in (4, 10 ** 6):
                self.assertEqual(told(text, room, (), most), (["1", "2", "3"], [("gave", "nil")], 3, True))
        self.assertEqual(told("", None, (), 9), ([], [("gave", "nil")], 1, True))

    def test_what_was_told_and_is_changed_is_not_seen_again(self):
        for room in ROOMS:
            first = told("say 1;", room, (), 9)
            first[0].append("x")
            first[1][0] = None
            self.assertEqual(told("say 1;", room, (), 9), (["1"], [("gave", "nil")], 1, True))


class Errors(unittest.TestCase):
    WRONG = [
        (lambda: None, ("NoText",)), (lambda: "say 1", ("BadText", 1)), (lambda: "say " + "-" * 50 + "1;", ("TooDeep",)), (lambda: "break;", ("BadNames", "loop", "break")),
    ]

    def test_each(self):
        for odd in [*NO_STRINGS, nested(250), nested_list(250), nested_dict(250)]:
            self.assertEqual(outcome(told, odd, None, (), 9), ("NoText",), repr(odd)[:50])
        self.assertEqual(outcome(told, "say 1;\nsay ;", None, (), 9), ("BadText", 2))
        self.assertEqual(outcome(told, "say " + "-" * 50 + "1;", None, (), 9), ("TooDeep",))
        self.assertEqual(outcome(told, "say x;", None, (), 9), ("BadNames", "unknown", "x"))
        odd_ones = [*NO_STRINGS, nested(250), nested_list(250), nested_dict(250), "", "room"]
        for odd in odd_ones:
            if odd is not None:
                self.assertEqual(outcome(told, "say 1;", odd, (), 9), ("NoRoom",), repr(odd)[:50])
            if not isinstance(odd, tuple):
                self.assertEqual(outcome(told, "say 1;", None, odd, 9), ("NoMoments", -1), repr(odd)[:50])
            if isinstance(odd, bool) or not isinstance(odd, int):
                self.assertEqual(outcome(told, "say 1;", None, (), odd), ("NoNumber",), repr(odd)[:50])
        for most in (-1, 10 ** 6 + 1, 10 ** 39, True, False):
            self.assertEqual(outcome(told, "say 1;", None, (), most), ("NoNumber",))
        self.assertEqual(outcome(told, '"0123456789";', Room(8, 11, 0), (), 0), ("HeapFull", 12))
        self.assertEqual(outcome(told, "[1, 2, 3, 4, 5, 6, 7];", Room(8, 8, 0), (), 0), ([], [None], 0, False))
        self.assertEqual(outcome(told, "[1, 2, 3, 4, 5, 6, 7];", Room(8, 8, 0), (), 2), ("HeapFull", 9))

    def test_two_that_are_due_at_once(self):
        texts = [(make(), wanted) for make, wanted in self.WRONG] + [('"0123456789";', None)]
        rooms = [(5, ("NoRoom",)), (Room(8, 8, 0), None)]
        moments = [(((0, "turn"),), ("NoMoments", 0)), ((), None)]
        mosts = [(-1, ("NoNumber",)), (9, None)]
        for text, text_error in texts:
            for room, room_error in rooms:
                for deeds, deeds_error in moments:
                    for most, most_error in mosts:
                        wanted = text_error or room_error or deeds_error or most_error or ("HeapFull", 12)
                        self.assertEqual(outcome(told, text, room, deeds, most), wanted)

    def test_fields(self):
        with self.assertRaises(HeapError) as caught:
            told('"0123456789";', Room(8, 8, 0), (), 0)
        self.assertEqual(vars(caught.exception), {"taken": 12})


if __name__ == "__main__":
    unittest.main()
