"""[5.1], [5.3] ticks, threads, the queue; [5.2] moments and switches; run(most)."""

import unittest

from tests.running import all_of, plain, said
from tests.told import NO_STRINGS, nested, nested_dict, nested_list, told
from unseenheap.plain import Plain
from unseenheap.reading import read

EVERY_TICK = tuple((tick, "switch") for tick in range(1, 2000))


class Ticks(unittest.TestCase):
    def test_how_many(self):
        for text, many in (
            ("", 1), ("say 1;", 1), ("yield();", 2), ("yield(); yield();", 3), ("fun f() { } f();", 2), ("fun f() { } f(f());", 2),
            ("while false { }", 2), ("var i = 0; while i < 3 { i = i + 1; }", 5), ("while true { break; }", 2),
            ("var i = 0; while i < 3 { i = i + 1; continue; }", 5), ("class A { } new A();", 1), ("class A { init() { } } new A();", 2),
            ("class A { m() { } } new A().m();", 2), ("class A { m() { } } class B of A { m() { super.m(); } } new B().m();", 3),
            ("spawn(fun() { });", 2), ("join(spawn(fun() { }));", 2), ("try { nil(); } catch e { }", 1), ("fun() { };", 1),
            ("fun f(a) { } try { f(); } catch e { }", 1), ("if true { }", 1), ("nil and yield();", 1), ("1 and yield();", 2),
        ):
            run = plain(text)
            self.assertTrue(run.is_over(), text)
            self.assertEqual(run.ticks(), many if text != "fun f() { } f(f());" else 2, text)

    def test_one_by_one(self):
        text = "fun f(n) { say n; yield(); say n + 1; } say 0; f(1); var i = 0; while i < 1 { i = i + 1; say 5; } say 6;"
        run = Plain(read(text), ())
        found = []
        for most in range(8):
            run.run(most)
            found.append((run.ticks(), run.is_over(), run.lines()))
        self.assertEqual(found, [
            (0, False, []), (1, False, []), (2, False, ["0"]), (3, False, ["0", "1"]), (4, False, ["0", "1", "2"]),
            (5, False, ["0", "1", "2", "5"]), (5, True, ["0", "1", "2", "5", "6"]), (5, True, ["0", "1", "2", "5", "6"]),
        ])

    def test_nothing_is_done_ahead_of_the_first_run(self):
        run = Plain(read('say "a"; fun f() { }'), ())
        self.assertEqual(all_of(run), (0, False, [], [None], 2))
        run.run(0)
        self.assertEqual(all_of(run), (0, False, [], [None], 2))

    def test_the_end_behind_the_last_tick(self):
        run = Plain((), ())
        run.run(1)
        self.assertEqual(all_of(run), (1, False, [], [None], 0))
        run.run(1)
        self.assertFalse(run.is_over())
        run.run(2)
        self.assertEqual(all_of(run), (1, True, [], [("gave", "nil")], 0))
        run.run(10 ** 6)
        self.assertEqual(all_of(run), (1, True, [], [("gave", "nil")], 0))

    def test_to_fewer_ticks_than_are_counted(self):
        run = plain("while true { say 1; }", (), 10)
        before = all_of(run)
        for most in (9, 10, 0):
            run.run(most)
            self.assertEqual(all_of(run), before)
        run.run(11)
        self.assertEqual(run.ticks(), 11)

    def test_at_once_and_in_pieces(self):
        text = ("fun f(n) { while n > 0 { n = n - 1; yield(); say n; } return n; } var a = spawn(fun() { return f(3); });"
                " var b = spawn(fun() { throw f(5); }); say join(a); try { join(b); } catch e { say e; } [];")
        moments = ((2, "switch"), (5, "switch"), (5, "switch"), (9, "sweep"), (11, "switch"))
        whole = Plain(read(text), moments)
        whole.run(40)
        pieces = Plain(read(text), moments)
        for most in range(41):
            pieces.run(most)
            again = Plain(read(text), moments)
            again.run(most)
            self.assertEqual(all_of(again), all_of(pieces))
        self.assertEqual(all_of(whole), all_of(pieces))
        self.assertTrue(whole.is_over())

    def test_a_program_without_an_end(self):
        run = plain("var i = 0; while true { i = i + 1; }", (), 20000)
        self.assertEqual((run.ticks(), run.is_over(), run.ends()), (20000, False, [None]))

    def test_results_are_new(self):
        run = plain("say 1;")
        run.lines().append("x")
        run.ends().append("x")
        run.ends()[0] = None
        self.assertEqual((run.lines(), run.ends()), (["1"], [("gave", "nil")]))
        run = plain("say 1; yield(); say 2;", (), 2)
        run.lines().clear()
        run.run(5)
        self.assertEqual(run.lines(), ["1", "2"])

    def test_two_runs_of_one_program_are_apart(self):
        program = read("var a = [1]; a[0] = a[0] + 1; say a[0];")
        for _ in range(2):
            run = Plain(program, ())
            run.run(5)
            self.assertEqual(run.lines(), ["2"])


class Threads(unittest.TestCase):
    def test_a_thread_is_a_value(self):
        self.assertEqual(said("var t = spawn(fun() { }); say t; say spawn(fun() { }); say t == t;"), ["thread 1", "thread 2", "true"])

    def test_a_thread_runs_when_those_ahead_wait_or_are_over(self):
        self.assertEqual(said("spawn(fun() { say 1; }); spawn(fun() { say 2; }); yield(); say 0;"), ["0", "1", "2"])
        self.assertEqual(said("var t = spawn(fun() { say 1; }); spawn(fun() { say 2; }); join(t); say 0;"), ["1", "2", "0"])

    def test_a_thread_goes_on_behind_the_end_of_thread_0(self):
        run = plain("spawn(fun() { yield(); say 1; return 5; }); throw 3;")
        self.assertEqual((run.lines(), run.ends()), (["1"], [("threw", "3"), ("gave", "5")]))

    def test_join_of_one_that_is_over(self):
        self.assertEqual(said("var t = spawn(fun() { return 5; }); join(t); say join(t); say join(t) + 1;"), ["5", "6"])
        self.assertEqual(said("var t = spawn(fun() { throw 5; }); try { join(t); } catch e { say e; } try { join(t); } catch e { say e + 1; }"),
                         ["5", "6"])

    def test_join_of_one_that_is_not(self):
        self.assertEqual(said("var t = spawn(fun() { yield(); say 1; return 2; }); say join(t);"), ["1", "2"])
        self.assertEqual(said("var t = spawn(fun() { yield(); say 1; nil(); }); try { say join(t); } catch e { say e; }"), ["1", "fault kind"])
        self.assertEqual(plain("join(spawn(fun() { throw [1]; }));").ends(), [("threw", "list 1"), ("threw", "list 1")])

    def test_join_of_itself(self):
        run = plain("var t = nil; t = spawn(fun() { try { join(t); } catch e { say e; } return 4; });")
        self.assertEqual((run.lines(), run.ends()), (["fault stuck"], [("gave", "nil"), ("gave", "4")]))
        run = plain("var t = nil; t = spawn(fun() { join(t); });")
        self.assertEqual((run.ends(), run.is_over()), ([("gave", "nil"), ("threw", "fault stuck")], True))

    def test_two_that_wait_for_one_another(self):
        text = ("var a = nil; var b = nil; a = spawn(fun() { try { say join(b); } catch e { say e; } return 1; });"
                " b = spawn(fun() { try { say join(a); } catch e { say e; } return 2; });")
        self.assertEqual(said(text), ["fault stuck", "1"])
        self.assertEqual(plain(text).ends(), [("gave", "nil"), ("gave", "1"), ("gave", "2")])

    def test_the_least_that_waits_throws_stuck(self):
        text = ("var t = nil; var l = []; var i = 0; while i < 3 { l = l + [spawn(fun() { yield(); join(t); })]; i = i + 1; }"
                " t = spawn(fun() { join(l[0]); }); join(t);")
        run = plain(text)
        # Threads 0 and 4 wait, 1 to 3 wait for 4: 0 is the least; then 1, behind which 4 goes on with what 1 threw.
        self.assertEqual(run.ends(), [("threw", "fault stuck")] * 5)
        self.assertTrue(run.is_over())

    def test_stuck_again_and_again(self):
        text = "var t = nil; t = spawn(fun() { var i = 0; while i < 3 { i = i + 1; try { join(t); } catch e { say e; } } }); "
        self.assertEqual(said(text), ["fault stuck"] * 3)

    def test_very_many_that_are_stuck(self):
        text = "var l = []; fun f(i) { return fun() { join(l[i]); }; } var i = 0; while i < 600 { l = l + [spawn(f(i))]; i = i + 1; }"
        run = plain(text)
        self.assertEqual(run.ends(), [("gave", "nil")] + [("threw", "fault stuck")] * 600)

    def test_those_that_wait_go_on_ascending(self):
        text = ("var t = nil; fun w(n) { return fun() { join(t); say n; }; } var c = spawn(fun() { yield(); });"
                " spawn(w(2)); spawn(w(3)); spawn(w(4)); t = spawn(fun() { yield(); say 0; }); join(t); say 9;")
        self.assertEqual(said(text), ["0", "9", "2", "3", "4"])
        # Thread 3 waits ahead of thread 2, and goes on behind it all the same.
        text = ("var t = nil; fun w(n, k) { return fun() { while k > 0 { k = k - 1; } join(t); say n; }; }"
                " spawn(w(1, 3)); spawn(w(2, 0)); t = spawn(fun() { var i = 0; while i < 9 { i = i + 1; } }); ")
        self.assertEqual(said(text, EVERY_TICK), ["1", "2"])

    def test_those_that_wait_go_behind_the_queue(self):
        text = ("var t = spawn(fun() { yield(); yield(); }); spawn(fun() { yield(); say 2; yield(); yield(); say 3; }); join(t); say 1;")
        self.assertEqual(said(text, ((3, "switch"),)), ["2", "3", "1"])

    def test_ends_while_threads_are_under_way(self):
        run = Plain(read("var t = spawn(fun() { yield(); return [1]; }); spawn(fun() { throw true; }); join(t); yield(); return_(); fun return_() { }"), ())
        found = []
        for most in (1, 2, 3, 4, 5, 6, 7):
            run.run(most)
            found.append(run.ends())
        self.assertEqual(found[0], [None])
        self.assertEqual(found[1], [None, None, None])
        self.assertEqual(found[3], [None, ("gave", "list 1"), None])
        self.assertEqual(found[-1], [("gave", "nil"), ("gave", "list 1"), ("threw", "true")])

    def test_a_function_that_keeps_cells(self):
        self.assertEqual(said("fun f(a) { return spawn(fun() { a = a + 1; return a; }); } say join(f(4));"), ["5"])
        self.assertEqual(said("fun f() { return 6; } say join(spawn(f));"), ["6"])

    def test_a_thread_begins_with_one_call_under_way_and_a_tick(self):
        run = plain("spawn(fun() { say 1; });", (), 2)
        self.assertEqual((run.ticks(), run.lines(), run.ends()), (2, [], [("gave", "nil"), None]))


class Switches(unittest.TestCase):
    def test_at_the_first_tick(self):
        self.assertEqual(said("say 1; yield(); say 2;", ((1, "switch"),)), ["1", "2"])

    def test_the_running_thread_goes_behind_all_of_the_queue(self):
        text = "spawn(fun() { say 1; yield(); say 11; }); spawn(fun() { say 2; yield(); say 22; }); say 0; yield(); say 3;"
        self.assertEqual(said(text), ["0", "3", "1", "11", "2", "22"])
        self.assertEqual(said(text, ((2, "switch"),)), ["0", "1", "11", "2", "22", "3"])
        self.assertEqual(said(text, ((2, "switch"), (4, "switch"))), ["0", "1", "2", "22", "3", "11"])
        self.assertEqual(said(text, ((2, "switch"), (3, "switch"))), ["0", "2", "22", "3", "1", "11"])

    def test_several_at_one_tick(self):
        text = "spawn(fun() { say 1; }); spawn(fun() { say 2; }); yield(); say 0;"
        self.assertEqual(said(text, ((2, "switch"), (2, "switch"))), ["2", "0", "1"])
        self.assertEqual(said(text, ((2, "switch"), (2, "switch"), (2, "switch"))), ["0", "1", "2"])
        self.assertEqual(said(text, ((2, "switch"), (2, "sweep"), (2, "young"), (2, "switch"), (2, ("steps", 3)))), ["2", "0", "1"])

    def test_a_switch_at_a_looks_tick_and_at_a_calls(self):
        text = "fun f(n) { say n; } spawn(fun() { f(1); f(2); }); var i = 0; while i < 2 { say 0; i = i + 1; }"
        self.assertEqual(said(text, ((3, "switch"),)), ["0", "1", "2", "0"])
        self.assertEqual(said(text, ((2, "switch"), (4, "switch"))), ["0", "0", "1", "2"])

    def test_deeds_of_ticks_that_are_not_come_to(self):
        self.assertEqual(said("say 1;", ((5, "switch"), (10 ** 9, "sweep"))), ["1"])

    def test_deeds_of_the_collector_are_not_seen(self):
        text = "fun f(n) { var t = weak([n]); yield(); say worth(t); return [t]; } spawn(fun() { f(1); }); f(2); say number([]);"
        wanted = None
        for deeds in ((), ((1, "young"), (2, "turn")), ((1, "whole"), (2, ("steps", 0)), (3, ("steps", 10 ** 9)), (3, "young"))):
            run = plain(text, deeds)
            wanted = wanted or all_of(run)
            self.assertEqual(all_of(run), wanted)

    def test_all_threads_at_every_tick(self):
        text = "fun f(n) { var i = 0; while i < 9 { say n; i = i + 1; } } var i = 1; while i < 4 { spawn(w(i)); i = i + 1; } fun w(n) { return fun() { f(n); }; }"
        self.assertEqual(sorted(said(text, EVERY_TICK)), sorted(said(text)))
        self.assertNotEqual(said(text, EVERY_TICK), said(text))


class Moments(unittest.TestCase):
    def no_moments(self, moments):
        return told(Plain, (), moments)

    def test_what_are_some(self):
        for moments in (
            (), ((1, "switch"),), ((1, "sweep"), (1, "young"), (1, "turn"), (2, "whole"), (2, ("steps", 0)), (3, ("steps", 10 ** 9))),
            ((10 ** 9, "sweep"),), ((10 ** 9, "sweep"), (10 ** 9, "sweep")), ((5, ("steps", 1)),),
        ):
            self.assertIsInstance(self.no_moments(moments), Plain)

    def test_no_tuple(self):
        for odd in [*[odd for odd in NO_STRINGS if not isinstance(odd, tuple)], "switch", [(1, "switch")], nested_list(250), nested_dict(250)]:
            self.assertEqual(self.no_moments(odd), ("NoMoments", -1), repr(odd)[:50])

    def test_ticks(self):
        for tick in (0, -1, 10 ** 9 + 1, 10 ** 39, True, False, None, "1", (1,), [1], b"1"):
            self.assertEqual(self.no_moments(((tick, "switch"),)), ("NoMoments", 0), tick)
            self.assertEqual(self.no_moments(((1, "switch"), (1, "sweep"), (tick, "switch"))), ("NoMoments", 2), tick)

    def test_ticks_that_descend(self):
        self.assertEqual(self.no_moments(((2, "switch"), (1, "switch"))), ("NoMoments", 1))
        self.assertEqual(self.no_moments(((2, "switch"), (2, "sweep"), (5, "sweep"), (4, "sweep"), (3, "sweep"))), ("NoMoments", 3))

    def test_deeds(self):
        for deed in ("", "Switch", "steps", "switch ", "step", None, True, 1, b"switch", ["steps", 1], ("steps",), ("steps", 1, 2), ("step", 1),
                     ("steps", -1), ("steps", 10 ** 9 + 1), ("steps", True), ("steps", "1"), ("steps", None), (1, "steps"), (["steps"], 1),
                     (), ("switch",), ("switch", 1), {}, nested(248), ("steps", nested(247))):
            self.assertEqual(self.no_moments(((3, deed),)), ("NoMoments", 0), deed)

    def test_pairs(self):
        for pair in (None, (), (1,), (1, "switch", 2), [1, "switch"], "ab", 1, True, {}, nested(248), b"ab"):
            self.assertEqual(self.no_moments((pair,)), ("NoMoments", 0), pair)
            self.assertEqual(self.no_moments(((7, "sweep"), pair, None)), ("NoMoments", 1), pair)

    def test_the_order_of_errors(self):
        self.assertEqual(told(Plain, None, None), ("NoProgram",))
        self.assertEqual(told(Plain, read("say a;"), None), ("BadNames", "unknown", "a"))
        self.assertEqual(told(Plain, read("say 1;"), None), ("NoMoments", -1))

    def test_what_is_no_program_or_has_faults(self):
        for odd in [odd for odd in NO_STRINGS if odd != ()] + ["say 1;", nested(250)]:
            self.assertEqual(told(Plain, odd, ()), ("NoProgram",), repr(odd)[:50])
        self.assertEqual(told(Plain, read("break; say x;"), ()), ("BadNames", "loop", "break"))


class Most(unittest.TestCase):
    def test_numbers(self):
        run = Plain((), ())
        for most in (0, 1, 10 ** 6):
            self.assertIsNone(run.run(most))

    def test_what_is_none(self):
        run = Plain(read("say 1;"), ())
        odds = [odd for odd in NO_STRINGS if isinstance(odd, bool) or not isinstance(odd, int)]
        for most in [*odds, -1, 10 ** 6 + 1, 10 ** 39, -10 ** 39, "1", nested_list(250)]:
            self.assertEqual(told(run.run, most), ("NoNumber",), repr(most)[:50])
            self.assertEqual(all_of(run), (0, False, [], [None], 0))
        run.run(2)
        self.assertEqual(told(run.run, True), ("NoNumber",))
        self.assertEqual(run.lines(), ["1"])


if __name__ == "__main__":
    unittest.main()
