"""[5.2] sweeps: which ties are left what they have."""

import unittest

from tests.running import plain, said


def swept(text, at=2, many=None):
    """What is said if there is a sweep at a tick."""
    return said(text, ((at, "sweep"),) if many is None else tuple((tick, "sweep") for tick in range(1, many)))


class Sweeps(unittest.TestCase):
    def test_a_thing_that_is_not_reached(self):
        self.assertEqual(swept("var t = weak([1]); yield(); say worth(t);"), ["nil"])
        self.assertEqual(said("var t = weak([1]); yield(); say worth(t);"), ["list 1"])

    def test_only_at_the_tick(self):
        text = "var t = weak([1]); say worth(t); yield(); say worth(t); yield(); say worth(t);"
        self.assertEqual(swept(text, 1), ["list 1", "list 1", "list 1"])
        self.assertEqual(swept(text, 3), ["list 1", "list 1", "nil"])
        self.assertEqual(swept(text, 2), ["list 1", "nil", "nil"])

    def test_things_of_all_sorts(self):
        for made in ("[1]", "new A()", "fun() { }", "weak(\"a\")", '"a" + "b"'):
            self.assertEqual(swept(f'class A {{ }} var t = weak({made}); yield(); say worth(t); var s = {made};'), ["nil"])
            self.assertEqual(swept(f"class A {{ }} var s = {made}; var t = weak(s); yield(); say worth(t) == s;"), ["true"])

    def test_what_a_top_name_has(self):
        self.assertEqual(swept("var a = [1]; var t = weak(a); yield(); say worth(t);"), ["list 1"])
        self.assertEqual(swept("var a = [1]; var t = weak(a); a = nil; yield(); say worth(t);"), ["nil"])
        self.assertEqual(swept("fun f() { } var t = weak(f); yield(); say worth(t);"), ["function f"])
        self.assertEqual(swept("fun f() { } var t = weak(f); f = 1; yield(); say worth(t);"), ["nil"])

    def test_the_texts_of_the_program(self):
        self.assertEqual(swept('var t = weak("a"); yield(); say worth(t);'), ["a"])
        self.assertEqual(swept('var t = weak("a" + "b"); yield(); say worth(t);'), ["nil"])
        self.assertEqual(swept('var t = weak("a"[0]); yield(); say worth(t);'), ["nil"])

    def test_what_a_slot_has(self):
        self.assertEqual(swept("fun f(a) { var t = weak(a); yield(); say worth(t); } f([1]);", 3), ["list 1"])
        self.assertEqual(swept("fun f(a) { var t = weak(a); a = nil; yield(); say worth(t); } f([1]);", 3), ["nil"])
        self.assertEqual(swept("fun f() { var a = [1]; var t = weak(a); yield(); say worth(t); } f();", 3), ["list 1"])

    def test_what_a_block_that_was_left_had_put_into_its_slot(self):
        self.assertEqual(swept("var t = nil; if true { var a = [1]; t = weak(a); } yield(); say worth(t);"), ["list 1"])
        self.assertEqual(swept("var t = nil; if true { var a = [1]; t = weak(a); } if true { var b = 1; } yield(); say worth(t);"), ["list 1"])
        self.assertEqual(swept("var t = nil; try { throw [1]; } catch e { t = weak(e); } yield(); say worth(t);"), ["list 1"])
        text = "var t = nil; var i = 0; while i < 2 { i = i + 1; if i == 2 { yield(); say worth(t); } var a = [i]; t = weak(a); }"
        self.assertEqual(swept(text, 4), ["list 1"])
        text = "var t = nil; var i = 0; while i < 2 { i = i + 1; var a = [i]; if i == 1 { t = weak(a); } if i == 2 { yield(); say worth(t); } }"
        self.assertEqual(swept(text, 4), ["nil"])

    def test_a_call_that_ended_holds_nothing(self):
        self.assertEqual(swept("var t = nil; fun f() { var a = [1]; t = weak(a); } f(); yield(); say worth(t);", 3), ["nil"])
        self.assertEqual(swept("var t = nil; fun f() { var a = [1]; t = weak(a); throw 1; } try { f(); } catch e { } yield(); say worth(t);", 3), ["nil"])
        self.assertEqual(swept("var t = nil; fun f() { var a = [1]; t = weak(a); throw a; } try { f(); } catch e { } yield(); say worth(t);", 3), ["list 1"])

    def test_all_calls_under_way_hold_their_slots(self):
        text = "var t = nil; fun f(a) { t = weak(a); g(); return a; } fun g() { yield(); say worth(t); } f([1]);"
        self.assertEqual(swept(text, 4), ["list 1"])

    def test_values_that_wait(self):
        ahead = "var t = nil; fun k(a) { t = weak(a); return a; } fun y() { yield(); say worth(t); return 0; } class A { x; m(a, b) { } } "
        for text in (
            "[k([1]), y()];", "k([1]) == y();", "fun(a, b) { }(k([1]), y());", "new A().m(k([1]), y());", "k([1])[y()];",
            "k([1])[y()] = 1;", "[5, k([1])][y()] = 2;", "k(fun(a) { })(y());", "k(new A()).m(1, y());",
            "k(new A()).x = y();", "[2][0] + [k([1]), y()][1];", "new A().m([k([1]), [y()]], 1);", "[[k([1])], y()];",
        ):
            found = swept(ahead + text, many=12)
            self.assertNotEqual(found[0], "nil", text)
            self.assertEqual(said(ahead + text), found, text)
        for text in ("k([1]); y();", "if k([1]) { y(); }", "while k([1]) { y(); break; }", "[len(k([1])), y()];", "k([1])[0] + y();", "not k([1]) == y();"):
            found = swept(ahead + text, many=12)
            self.assertEqual(found[0], "nil" if text != "not k([1]) == y();" else "list 1", text)

    def test_and_or_let_go_of_their_first_value(self):
        ahead = "var t = nil; fun k(a) { t = weak(a); return a; } fun y() { yield(); say worth(t); } "
        self.assertEqual(swept(ahead + "k([1]) and y();", many=9), ["nil"])
        self.assertEqual(swept(ahead + "not k([1]) or y();", many=9), ["nil"])

    def test_values_that_waited_when_something_was_thrown_are_gone(self):
        ahead = "var t = nil; fun k(a) { t = weak(a); return a; } "
        self.assertEqual(swept(ahead + "try { [k([1]), nil()]; } catch e { yield(); say worth(t); }", many=9), ["nil"])
        self.assertEqual(swept(ahead + "fun f() { throw 1; } try { [k([1]), f()]; } catch e { } yield(); say worth(t);", many=9), ["nil"])
        self.assertEqual(swept(ahead + "fun f() { [k([1]), nil()]; } try { f(); } catch e { } yield(); say worth(t);", many=9), ["nil"])
        text = "fun f() { try { [k([1]), nil()]; } catch e { } yield(); say worth(t); return 2; } say f();"
        self.assertEqual(swept(ahead + text, many=9), ["nil", "2"])

    def test_the_new_object_waits(self):
        ahead = "var t = nil; fun y() { yield(); say worth(t); return 1; } "
        self.assertEqual(swept(ahead + "class A { init(a) { this_(this); } } fun this_(a) { t = weak(a); a = nil; y(); } new A(1);", many=9), ["object A"])
        text = "class B { init(a) { t = weak(this); } } class A { x; init(a) { } } var n = nil; fun f() { y(); } "
        self.assertEqual(swept(ahead + text + "new B(1); y();", many=9), ["nil"])
        # The object is held while its arguments are worked out, too: the tie to it is made by its number's neighbour.
        run = plain("class A { x; } fun f() { yield(); return 1; } try { new A(f()); } catch e { say e; }", ((3, "sweep"),))
        self.assertEqual(run.lines(), ["fault count"])

    def test_the_function_called(self):
        text = "var t = nil; fun f() { yield(); say worth(t); } fun w(g) { t = weak(g); return g; } w(fun() { f(); })();"
        self.assertEqual(swept(text, many=9), ["function fun"])
        text = ("var t = nil; fun f(a) { t = weak(a); return fun() { yield(); say worth(t); a == 1; }; } f([1])();")
        self.assertEqual(swept(text, many=9), ["list 1"])
        text = ("var t = nil; fun f(a) { t = weak(a); return fun() { yield(); say worth(t); }; } f([1])();")
        self.assertEqual(swept(text, many=9), ["nil"])

    def test_arguments_at_the_tick_of_their_call(self):
        self.assertEqual(swept("fun f(a) { say worth(t); } var t = nil; fun k(a) { t = weak(a); return a; } f(k([1]));", 3), ["list 1"])
        self.assertEqual(swept("class A { m() { say worth(t); } } var t = nil; fun k(a) { t = weak(a); return a; } k(new A()).m();", 3), ["object A"])

    def test_parameters_that_are_in_cells(self):
        text = "var t = nil; fun f(a) { t = weak(a); yield(); say worth(t); return fun() { a = 1; }; } f([1]);"
        self.assertEqual(swept(text, 3), ["list 1"])
        text = "var t = nil; fun f(a) { t = weak(a); var g = fun() { a = nil; }; g(); yield(); say worth(t); } f([1]);"
        self.assertEqual(swept(text, 4), ["nil"])

    def test_a_threads_end(self):
        self.assertEqual(swept("var t = nil; fun g() { var a = [1]; t = weak(a); return a; } join(spawn(g)); yield(); say worth(t);", 3), ["list 1"])
        self.assertEqual(swept("var t = nil; fun g() { var a = [1]; t = weak(a); throw a; } try { join(spawn(g)); } catch e { e = 1; } yield(); say worth(t);", 3),
                         ["list 1"])
        self.assertEqual(swept("var t = nil; fun g() { var a = [1]; t = weak(a); } join(spawn(g)); yield(); say worth(t);", 3), ["nil"])

    def test_threads_that_are_ready_or_wait(self):
        text = ("var t = nil; fun g() { var a = [1]; t = weak(a); yield(); return a == 1; } var s = spawn(g); spawn(fun() { yield(); say worth(t); });"
                " join(s);")
        self.assertEqual(said(text, ((3, "switch"), (4, "sweep"))), ["list 1"])
        self.assertEqual(said(text, ((4, "sweep"),)), ["nil"])
        text = "var t = nil; fun g(a) { t = weak(a); return fun() { a == 1; }; } spawn(g([1])); yield(); say worth(t);"
        self.assertEqual(swept(text, 3), ["list 1"])
        text = "var t = nil; var s = spawn(fun() { yield(); yield(); }); spawn(fun() { var a = [1]; t = weak(a); join(s); }); yield(); join(s); say worth(t);"
        self.assertEqual(swept(text, many=12)[0], "list 1")

    def test_ties_hold_nothing(self):
        self.assertEqual(swept("var s = nil; var t = nil; if true { var l = [1]; s = weak(l); t = weak(s); l = nil; } yield(); say worth(s); say worth(t);"),
                         ["nil", "tie"])
        self.assertEqual(swept("var t = weak(weak([1])); yield(); say worth(t);"), ["nil"])
        self.assertEqual(swept("var l = [weak([1]), weak([2])]; var s = weak(l); yield(); say worth(l[0]); say worth(l[1]); say worth(s);"),
                         ["nil", "nil", "list 2"])

    def test_ties_of_ties(self):
        text = "var a = [1]; var s = weak(a); var t = weak(s); s = nil; yield(); say worth(t); "
        self.assertEqual(swept(text), ["nil"])

    def test_what_is_come_to_by_things(self):
        for holder in ("[[a]]", "new A(a)", "fun() { return a; }", "[fun() { return [a]; }]"):
            text = "class A { x; init(a) { this.x = a; } } fun f(a) { t = weak(a); return HOLDER; } var t = nil; var h = f([1]); yield(); say worth(t); h = nil; yield(); say worth(t);"
            self.assertEqual(swept(text.replace("HOLDER", holder), many=9), ["list 1", "nil"], holder)

    def test_things_that_lead_in_a_ring(self):
        self.assertEqual(swept("var a = [nil]; a[0] = [a]; var t = weak(a); yield(); say worth(t); a = nil; yield(); say worth(t);", many=9),
                         ["list 1", "nil"])

    def test_a_tie_that_has_nil_already(self):
        self.assertEqual(swept("var t = weak([1]); yield(); yield(); say worth(t); say worth(t) == nil;", many=9), ["nil", "true"])

    def test_numbers_and_made_stay(self):
        text = "var t = weak([1]); yield(); say number([]);"
        self.assertEqual(swept(text), said(text))
        self.assertEqual(plain(text, ((2, "sweep"),)).made(), 3)

    def test_two_ties_to_one_thing(self):
        self.assertEqual(swept("var a = []; var s = weak(a); var t = weak(a); a = nil; yield(); say worth(s); say worth(t);"), ["nil", "nil"])

    def test_a_sweep_goes_with_a_switch_at_one_tick(self):
        text = "var t = weak([1]); spawn(fun() { say worth(t); }); yield(); say 0;"
        for deeds in (((2, "switch"), (2, "sweep")), ((2, "sweep"), (2, "switch"))):
            self.assertEqual(said(text, deeds), ["nil", "0"])


if __name__ == "__main__":
    unittest.main()
