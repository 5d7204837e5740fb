"""[4.1], [4.4], [4.5] what programs mean: statements, calls, cells, objects, what is thrown, what is made."""

import unittest

from tests.running import plain, said, value

# Functions that say a number when they are called, and give something.
PARTS = (
    "fun n(k) { say k; return k; } fun f(k) { say k; return fun(a, b) { say \"call\"; return a; }; } fun l(k) { say k; return [5, 6, 7]; }"
    " class P { x; y; m(a, b) { say \"m\"; return b; } } class Q { x; init(a, b) { say \"init\"; } } var p = new P();"
    " fun o(k) { say k; return p; } fun b(k, v) { say k; return v; } "
)


def order(text):
    """What is said while an expression is worked out, and its value or the fault behind it."""
    return said(PARTS + "try { say " + text + "; } catch e { say e; }")


def does(text):
    """As order, of statements."""
    return said(PARTS + "try { " + text + " } catch e { say e; }")


class Order(unittest.TestCase):
    def test_from_left_to_right_each_once(self):
        for word in ("+", "-", "*", "/", "mod"):
            self.assertEqual(order(f"n(1) {word} n(2)")[:2], ["1", "2"])
        for word in ("==", "!=", "<", "<=", ">", ">="):
            self.assertEqual(order(f"n(1) {word} n(2)"), ["1", "2", {"==": "false", ">": "false", ">=": "false"}.get(word, "true")])
        self.assertEqual(order("[n(1), n(2), n(3)]"), ["1", "2", "3", "list 3"])
        self.assertEqual(order("l(1)[n(2)]"), ["1", "2", "7"])
        self.assertEqual(order("f(1)(n(2), n(3))"), ["1", "2", "3", "call", "2"])
        self.assertEqual(order("o(1).m(n(2), n(3))"), ["1", "2", "3", "m", "3"])
        self.assertEqual(order("new Q(n(1), n(2))"), ["1", "2", "init", "object Q"])
        self.assertEqual(order("(n(1) - n(2)) - (n(3) - n(4))"), ["1", "2", "3", "4", "0"])
        self.assertEqual(order("-n(1)"), ["1", "-1"])
        self.assertEqual(order("not n(1)"), ["1", "false"])
        self.assertEqual(order("len(l(1))"), ["1", "3"])
        self.assertEqual(order("o(1).x"), ["1", "nil"])

    def test_values_that_wait_beneath(self):
        for text, wanted in (("1 and 2", "2"), ("nil or 3", "3"), ("5 or 3", "5"), ("false and 2", "false"), ("join(t)", "7"),
                             ("new R(4).x", "4"), ("new P().x", "nil"), ("yield()", "nil"), ("-3", "-3"), ("len([1])", "1"), ("f()", "6")):
            for beneath in ("nil", "9", "[8]"):
                self.assertEqual(
                    said("class P { x; } class R { x; init(a) { this.x = a; } } fun f() { return 6; } var t = spawn(fun() { return 7; });"
                         f" var l = [{beneath}, {text}, {text}, 1]; say l[1]; say l[2]; say l[3]; say l[0] == nil or l[0] == 9 or l[0][0] == 8;"),
                    [wanted, wanted, "1", "true"], text,
                )

    def test_what_is_set(self):
        self.assertEqual(does("l(1)[n(2)] = n(3);"), ["1", "2", "3"])
        self.assertEqual(does("o(1).x = n(2); say p.x;"), ["1", "2", "2"])
        self.assertEqual(said("var a = 1; fun f() { a = 2; return 3; } a = f() + a; say a;"), ["5"])
        self.assertEqual(said("var a = 1; fun f() { a = 2; return a; } if true { var b = a + f(); say b; }"), ["3"])

    def test_faults_come_behind_all_parts(self):
        self.assertEqual(order("b(1, nil) + n(2)"), ["1", "2", "fault kind"])
        self.assertEqual(order("b(1, nil)[n(2)]"), ["1", "2", "fault kind"])
        self.assertEqual(order("n(1) / n(0)"), ["1", "0", "fault zero"])
        self.assertEqual(order("b(1, nil)(n(2), n(3))"), ["1", "2", "3", "fault kind"])
        self.assertEqual(order("f(1)(n(2))"), ["1", "2", "fault count"])
        self.assertEqual(order("b(1, nil).m(n(2))"), ["1", "2", "fault kind"])
        self.assertEqual(order("o(1).q(n(2))"), ["1", "2", "fault method"])
        self.assertEqual(order("o(1).m(n(2))"), ["1", "2", "fault count"])
        self.assertEqual(order("new P(n(1))"), ["1", "fault count"])
        self.assertEqual(order("new Q(n(1))"), ["1", "fault count"])
        self.assertEqual(does("b(1, nil)[n(2)] = n(3);"), ["1", "2", "3", "fault kind"])
        self.assertEqual(does("l(1)[n(9)] = n(3);"), ["1", "9", "3", "fault index"])
        self.assertEqual(does("b(1, nil).x = n(2);"), ["1", "2", "fault kind"])
        self.assertEqual(does("o(1).z = n(2);"), ["1", "2", "fault field"])
        self.assertEqual(order("b(1, nil) < n(2)"), ["1", "2", "fault kind"])

    def test_a_part_that_throws_ends_the_rest(self):
        self.assertEqual(order("n(1) + nil() + n(2)"), ["1", "fault kind"])
        self.assertEqual(order("f(1)(n(2), nil(), n(3))"), ["1", "2", "fault kind"])
        self.assertEqual(order("[n(1), [][0], n(2)]"), ["1", "fault index"])
        self.assertEqual(does("l(1)[nil()] = n(2);"), ["1", "fault kind"])


class Statements(unittest.TestCase):
    def test_the_empty_program(self):
        run = plain("")
        self.assertEqual((run.ticks(), run.is_over(), run.lines(), run.ends(), run.made()), (1, True, [], [("gave", "nil")], 0))

    def test_top_names_are_nil_till_their_statement(self):
        self.assertEqual(said("say a; say f; var a = 1; fun f() { } say a;"), ["nil", "function f", "1"])
        self.assertEqual(said("fun f() { return a; } say f(); var a = 3; say f(); a = 4; say f();"), ["nil", "3", "4"])
        self.assertEqual(said("f = 5; say f; fun f() { }"), ["5"])

    def test_a_var_is_set_behind_its_expression(self):
        self.assertEqual(said("var a = a; say a;"), ["nil"])
        self.assertEqual(said("var a = 1; if true { var a = a + 1; say a; } say a;"), ["2", "1"])
        self.assertEqual(said("var a = 1; try { a = nil(); } catch e { } say a;"), ["1"])

    def test_while(self):
        self.assertEqual(said("var i = 0; while i < 3 { say i; i = i + 1; }"), ["0", "1", "2"])
        self.assertEqual(said("while false { say 1; } say 2;"), ["2"])

    def test_break_and_continue(self):
        self.assertEqual(said("var i = 0; while true { i = i + 1; if i == 2 { continue; } if i > 4 { break; } say i; } say 9;"),
                         ["1", "3", "4", "9"])
        self.assertEqual(
            said("var i = 0; while i < 2 { i = i + 1; var k = 0; while true { k = k + 1; if k == 2 { continue; } if k == 4 { break; } say k; } say i; }"),
            ["1", "3", "1", "1", "3", "2"],
        )
        self.assertEqual(
            said("var i = 0; while i < 4 { i = i + 1; try { if i == 2 { continue; } if i == 3 { break; } say i; } catch e { say e; } } try { nil(); } catch e { say e; }"),
            ["1", "fault kind"],
        )
        self.assertEqual(
            said("var i = 0; while i < 3 { i = i + 1; try { throw i; } catch e { if e == 1 { continue; } say e; break; } } say i;"),
            ["2", "2"],
        )

    def test_return(self):
        self.assertEqual(said("fun f(n) { if n { return 1; } return 2; } say f(true); say f(nil);"), ["1", "2"])
        self.assertEqual(said("fun f() { } say f();"), ["nil"])
        self.assertEqual(said("fun f() { while true { try { return 5; } catch e { say e; } } } say f(); nil == f();"), ["5"])
        self.assertEqual(said("fun f() { try { throw 1; } catch e { return e + 1; } } say f();"), ["2"])
        self.assertEqual(said("fun f() { try { return nil(); } catch e { return e; } } say f();"), ["fault kind"])

    def test_what_is_thrown_and_not_caught_ends_the_thread(self):
        run = plain("say 1; throw 2; say 3;")
        self.assertEqual((run.lines(), run.ends(), run.is_over()), (["1"], [("threw", "2")], True))
        self.assertEqual(plain("say 1; nil(); say 3;").ends(), [("threw", "fault kind")])
        self.assertEqual(plain("throw [1, 2];").ends(), [("threw", "list 2")])


class Throwing(unittest.TestCase):
    def test_any_value(self):
        for text, line in (("1", "1"), ("nil", "nil"), ("[1]", "list 1"), ('"a"', "a"), ("fun() { }", "function fun"), ("true", "true")):
            self.assertEqual(said(f"try {{ throw {text}; }} catch e {{ say e; }}"), [line])

    def test_through_calls(self):
        self.assertEqual(
            said("fun f(n) { if n == 0 { throw 7; } f(n - 1); say n; } try { f(5); say 1; } catch e { say e; } say 2;"), ["7", "2"],
        )
        self.assertEqual(said("class A { m() { throw this; } } try { [1, new A().m()]; } catch e { say e; }"), ["object A"])
        self.assertEqual(said("class A { init() { throw 1; } } try { say new A(); } catch e { say e; }"), ["1"])

    def test_out_of_loops(self):
        self.assertEqual(said("try { while true { while true { throw 1; } } } catch e { say e; } say 2;"), ["1", "2"])

    def test_in_a_catch(self):
        self.assertEqual(
            said("try { try { throw 1; } catch e { say e; throw e + 1; } say 9; } catch e { say e; throw_(); } fun throw_() { say 3; }"),
            ["1", "2", "3"],
        )
        self.assertEqual(plain("try { throw 1; } catch e { throw 2; }").ends(), [("threw", "2")])

    def test_the_innermost_block_catches(self):
        self.assertEqual(said("try { try { throw 1; } catch a { say a; } say 2; } catch b { say 3; }"), ["1", "2"])
        self.assertEqual(said("fun f() { try { throw 1; } catch a { say a; } } try { f(); say 2; } catch b { say 3; }"), ["1", "2"])
        self.assertEqual(said("try { throw 1; } catch a { say a; } try { throw 2; } catch a { say a; }"), ["1", "2"])

    def test_values_that_waited_are_gone(self):
        self.assertEqual(said("fun f() { throw 1; } fun g() { try { say 5 + f(); } catch e { say e; } return 3; } say 2 + g();"), ["1", "5"])
        self.assertEqual(said("var i = 0; while i < 3 { i = i + 1; try { [1, 2, [3, nil()]]; } catch e { say i; } }"), ["1", "2", "3"])

    def test_blocks_in_which_nothing_is_thrown(self):
        self.assertEqual(said("try { say 1; } catch e { say 2; } try { } catch e { say 3; } say 4;"), ["1", "4"])

    def test_a_fault_that_is_caught_and_thrown_again(self):
        self.assertEqual(said("try { try { 1 / 0; } catch e { throw e; } } catch e { say e; say e == e; }"), ["fault zero", "true"])

    def test_what_was_set_stays_set(self):
        self.assertEqual(said("var a = 0; try { a = 1; nil(); a = 2; } catch e { } say a;"), ["1"])


class Calls(unittest.TestCase):
    def test_values_that_are_no_functions(self):
        for text in ("1()", "nil(1)", '"a"()', "[]()", "true()", "weak([])()"):
            self.assertEqual(value(text), "fault kind")

    def test_count(self):
        for text in ("fun() { }(1)", "fun(a) { }()", "fun(a) { }(1, 2)", "fun(a, b) { }(1)"):
            self.assertEqual(value(text), "fault count")
        self.assertEqual(value("fun(a, b) { return a - b; }(5, 3)"), "2")

    def test_199_200_201_deep(self):
        text = "fun f(n) { if n == 0 { return 7; } return f(n - 1); } try { say f(N); } catch e { say e; } say 1;"
        # The call of the top is one, so f may call itself 198 times.
        self.assertEqual(said(text.replace("N", "197")), ["7", "1"])
        self.assertEqual(said(text.replace("N", "198")), ["7", "1"])
        self.assertEqual(said(text.replace("N", "199")), ["fault deep", "1"])
        self.assertEqual(plain(text.replace("N", "198")).ticks(), 200)
        self.assertEqual(plain(text.replace("N", "199")).ticks(), 200)

    def test_deep_of_a_thread(self):
        text = "fun f(n) { if n == 0 { return 7; } return f(n - 1); } try { say join(spawn(fun() { return f(N); })); } catch e { say e; }"
        self.assertEqual(said(text.replace("N", "198")), ["7"])
        self.assertEqual(said(text.replace("N", "199")), ["fault deep"])

    def test_deep_comes_behind_count_and_kind(self):
        text = "fun f(n) { if n == 0 { LAST; } return f(n - 1); } class A { m(a) { } } class B of A { m(a) { super.m(); } } try { say f(198); } catch e { say e; }"
        for last, name in (("f(0)", "deep"), ("f()", "count"), ("nil()", "kind"), ("new A().m(1)", "deep"), ("new A().m()", "count"),
                           ("new A().n()", "method"), ("new A(1)", "count"), ("1 / 0", "zero")):
            self.assertEqual(said(text.replace("LAST", last)), ["fault " + name])

    def test_deep_of_methods_and_init(self):
        text = "class A { m(n) { if n == 0 { return 7; } return this.m(n - 1); } } try { say new A().m(N); } catch e { say e; }"
        self.assertEqual(said(text.replace("N", "198")), ["7"])
        self.assertEqual(said(text.replace("N", "199")), ["fault deep"])
        text = "class A { init(n) { if n > 0 { new A(n - 1); } } } try { say new A(N); } catch e { say e; }"
        self.assertEqual(said(text.replace("N", "198")), ["object A"])
        self.assertEqual(said(text.replace("N", "199")), ["fault deep"])
        text = ("class A { m(n) { if n == 0 { return 7; } return this.m(n - 1); } } class B of A { m(n) { return super.m(n); } }"
                " try { say new B().m(N); } catch e { say e; }")
        self.assertEqual(said(text.replace("N", "98")), ["7"])
        self.assertEqual(said(text.replace("N", "99")), ["fault deep"])

    def test_calls_that_ended_count_no_more(self):
        self.assertEqual(said("fun f() { } var i = 0; while i < 500 { f(); i = i + 1; } say i;"), ["500"])
        self.assertEqual(said("fun f(n) { if n == 0 { throw 1; } f(n - 1); } var i = 0; while i < 5 { try { f(150); } catch e { } i = i + 1; } say i;"), ["5"])


class Cells(unittest.TestCase):
    def test_counters_that_share_a_variable(self):
        self.assertEqual(
            said("fun c(n) { return [fun() { n = n + 1; return n; }, fun() { return n; }]; } var a = c(5); var b = c(0);"
                 " a[0](); a[0](); b[0](); say a[1](); say b[1]();"),
            ["7", "1"],
        )

    def test_a_variable_of_a_round_that_a_fun_keeps(self):
        self.assertEqual(
            said("var l = []; var i = 0; while i < 3 { var k = i; l = l + [fun() { k = k + 10; return k; }]; i = i + 1; }"
                 " say l[0](); say l[1](); say l[0](); say l[2]();"),
            ["10", "11", "20", "12"],
        )

    def test_vars_and_catches_and_parameters(self):
        self.assertEqual(said("fun f(a) { var g = fun() { return a; }; a = a + 1; return g; } say f(1)();"), ["2"])
        self.assertEqual(said("var g = nil; try { throw 4; } catch e { g = fun() { e = e + 1; return e; }; } say g(); say g();"), ["5", "6"])
        self.assertEqual(said("fun f() { if true { var a = 1; var g = fun() { return a; }; a = 2; return g; } } say f()();"), ["2"])

    def test_through_several_funs(self):
        self.assertEqual(
            said("fun f(a) { return fun() { return fun(b) { a = a + b; return a; }; }; } var g = f(1); var h = g(); var k = g(); say h(2); say k(3);"),
            ["3", "6"],
        )

    def test_this_that_is_captured(self):
        self.assertEqual(
            said("class A { x; init(a) { this.x = a; } m() { return fun() { this.x = this.x + 1; return this.x; }; } }"
                 " var a = new A(3); var g = a.m(); g(); say g(); say a.x;"),
            ["5", "5"],
        )

    def test_a_call_has_its_own_variables(self):
        self.assertEqual(said("fun f(n) { var a = n; if n > 0 { f(n - 1); } return a; } say f(3);"), ["3"])
        self.assertEqual(said("fun f(n) { if n { var a = 1; } else { var b = 2; return b; } return n; } say f(nil); say f(5);"), ["2", "5"])


class Objects(unittest.TestCase):
    def test_fields(self):
        self.assertEqual(said("class A { x; y; } var a = new A(); say a.x; a.x = 1; a.y = a; say a.x; say a.y.y.x; say a == a.y;"),
                         ["nil", "1", "1", "true"])
        self.assertEqual(said("class A { x; } var a = new A(); try { say a.y; } catch e { say e; } try { a.y = 1; } catch e { say e; }"),
                         ["fault field", "fault field"])
        for text in ("nil.x", "1.x", '"a".x', "[].x", "fun() { }.x"):
            self.assertEqual(value(text), "fault kind")
        self.assertEqual(said("try { [].x = 1; } catch e { say e; }"), ["fault kind"])

    def test_fields_of_elders(self):
        self.assertEqual(
            said("class A { x; init() { this.x = 1; } } class B of A { y; z; } class C of B { w; }"
                 " var c = new C(); c.w = 4; c.z = 3; c.y = 2; say c.x + 10 * c.y + 100 * c.z + 1000 * c.w;"),
            ["4321"],
        )

    def test_methods(self):
        self.assertEqual(said("class A { m(a) { return [this, a]; } } var a = new A(); var l = a.m(5); say l[0] == a; say l[1];"), ["true", "5"])
        self.assertEqual(said("class A { m() { } } say new A().m();"), ["nil"])
        for text in ("nil.m()", "1.m()", "[].m(1)", "fun() { }.m()"):
            self.assertEqual(value(text), "fault kind")
        ahead = "class A { x; m(a) { return a; } } var a = new A(); a.x = fun() { return 1; }; try { say "
        for text, line in (("a.m()", "fault count"), ("a.m(1, 2)", "fault count"), ("a.n()", "fault method"), ("a.x()", "fault method"),
                           ("(a.x)()", "1"), ("a.m", "fault field"), ("a.m(3)", "3")):
            self.assertEqual(said(ahead + text + "; } catch e { say e; }"), [line])

    def test_methods_of_elders(self):
        text = ("class A { m() { return 1; } n() { return this.m(); } } class B of A { m() { return 2; } } class C of B { }"
                " say new C().m(); say new C().n(); say new A().n();")
        self.assertEqual(said(text), ["2", "2", "1"])

    def test_super(self):
        text = ("class A { m(a) { return [1, a, this]; } } class B of A { m(a) { return 2; } up(a) { return super.m(a); } }"
                " class C of B { m(a) { return super.up(a); } k(a) { return fun() { return super.m(a); }; } }"
                " var c = new C(); var l = c.m(7); say l[0]; say l[1]; say l[2] == c; say c.k(1)();")
        self.assertEqual(said(text), ["1", "7", "true", "2"])
        text = "class A { } class B of A { m() { return super.m(); } n(a) { return super.m(a); } } try { say new B().N; } catch e { say e; }"
        self.assertEqual(said(text.replace("N", "m()")), ["fault method"])
        self.assertEqual(said(text.replace("N", "n(nil())")), ["fault kind"])
        text = "class A { m(a) { } } class B of A { m(a) { return super.m(); } } try { say new B().m(1); } catch e { say e; }"
        self.assertEqual(said(text), ["fault count"])

    def test_init(self):
        self.assertEqual(said("class A { x; init(a) { this.x = a; return 9; } } var a = new A(4); say a; say a.x;"), ["object A", "4"])
        self.assertEqual(said("class A { init(a) { say a; } } class B of A { } new B(3);"), ["3"])
        self.assertEqual(said("class A { init(a) { say a; } } class B of A { init() { super.init(5); } } new B();"), ["5"])
        ahead = "class A { } class B { init(a) { } } try { say new "
        for text, line in (("A()", "object A"), ("A(1)", "fault count"), ("A(nil())", "fault kind"), ("B(1)", "object B"),
                           ("B()", "fault count"), ("B(1, 2)", "fault count")):
            self.assertEqual(said(ahead + text + "; } catch e { say e; }"), [line])
        self.assertEqual(said("class A { x; init(a) { this.x = a; } } var a = new A(1); a.init(2); say a.x;"), ["2"])

    def test_classes_that_stand_behind(self):
        self.assertEqual(said("say new A(); fun f() { return new A().m(); } say f(); class A { m() { return 3; } }"), ["object A", "3"])


class Making(unittest.TestCase):
    def test_texts_ahead_of_functions(self):
        self.assertEqual(
            said('say number(f); say number("b"); say number("a"); say number(g); fun f() { return "a"; } fun g() { return "c"; } say number([]);'),
            ["4", "1", "2", "5", "6"],
        )

    def test_unlike_texts_once_as_they_first_stand(self):
        run = plain('fun f() { return "b"; } say number("a"); say number("b"); say number("a"); class A { m() { return "c"; } }'
                    ' fun g() { return fun() { return "d"; }; } say number("c"); say number("d"); say "a" == "a";')
        self.assertEqual(run.lines(), ["2", "1", "2", "3", "4", "true"])
        self.assertEqual(run.made(), 6)

    def test_a_text_is_the_thing_made_at_the_begin(self):
        self.assertEqual(said('fun f() { return "a"; } say number(f()) == number(f()); say f() == "a";'), ["true", "true"])

    def test_methods_make_nothing_at_the_begin(self):
        self.assertEqual(plain("class A { m() { } } var a = 1;").made(), 0)

    def test_made_ahead_of_the_first_tick(self):
        run = plain('fun f() { } say "a"; say "b"; say [];', (), 0)
        self.assertEqual((run.made(), run.ticks()), (3, 0))

    def test_the_order_in_which_things_are_made(self):
        self.assertEqual(said("class A { x; init(a) { this.x = number(a); } } var a = new A([]); say number(a); say a.x;"), ["1", "2"])
        self.assertEqual(said("var l = [[], [[]], weak([])]; say number(l[0]); say number(l[1]); say number(l[1][0]); say number(l[2]); say number(l);"),
                         ["1", "3", "2", "5", "6"])

    def test_cells_are_made_when_variables_are(self):
        text = "fun f(a, b, c) { say number([]); return fun() { a; c; }; } say number(f(1, 2, 3)); say number([]);"
        # f is 1; cells of a and c are 2 and 3.
        self.assertEqual(said(text), ["4", "5", "6"])
        text = "class A { m(a) { say number([]); return fun() { a; this; }; } } say number(new A().m(1));"
        self.assertEqual(said(text), ["4", "5"])
        text = "if true { var a = number([]); say number([]); fun() { a; }; }"
        self.assertEqual(said(text), ["3"])
        text = "try { throw number([]); } catch e { say number([]); fun() { e; }; }"
        self.assertEqual(said(text), ["3"])
        text = "var i = 0; while i < 3 { var k = i; fun() { k; }; i = i + 1; }"
        self.assertEqual(plain(text).made(), 6)
        self.assertEqual(plain("fun f(a) { fun() { a; }; }").made(), 1)

    def test_cells_of_parameters_behind_the_tick(self):
        text = "fun f(a) { return fun() { a; }; } f(1);"
        self.assertEqual([plain(text, (), most).made() for most in (0, 1, 2, 3)], [1, 1, 1, 3])
        # f is 1; the cells of a and b are 2 and 3, the fun's cells stand in the order in which they are met.
        text = "fun f(a, b) { return fun() { b; a; }; } say number(f(1, 2));"
        self.assertEqual(said(text), ["4"])


if __name__ == "__main__":
    unittest.main()
