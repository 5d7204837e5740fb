"""[2.1], [2.3], [2.4] names(program), meanings(program), called_anew(program), are_alike(one, other)."""

import unittest

from tests.drawn_programs import drawn
from tests.plain_model import names_told
from tests.sample_trees import Maker
from tests.told import NO_STRINGS, nested, nested_dict, nested_list, told
from unseenheap.names import are_alike, called_anew, meanings, name_faults, names
from unseenheap.reading import read
from unseenheap.showing import show

NO_PROGRAMS = [odd for odd in NO_STRINGS if odd != ()] + ["say 1;", nested(250), nested_list(250), nested_dict(250), [("break",)]]


def named(text):
    return names(read(text))


def meant(text):
    return meanings(read(text))


def anew(text):
    return show(called_anew(read(text)))


def shown(text):
    return show(read(text))


class Codes(unittest.TestCase):
    def test_code_0_alone(self):
        self.assertEqual(names(()), (("top", 0, (), ()),))
        self.assertEqual(named("var a = 1; say a;"), (("top", 0, (), ()),))

    def test_codes_are_numbered_as_they_begin(self):
        found = named(
            "say fun() { fun() { }; }; fun f() { fun(a) { }; } class A { x; m() { return fun() { return fun() { }; }; } n() { } }"
            " fun g() { } say g(fun(b) { }, fun(c) { });"
        )
        self.assertEqual([code[0] for code in found], [
            "top", "fun", "fun", "f", "fun", "A.m", "fun", "fun", "A.n", "g", "fun", "fun",
        ])
        self.assertEqual([code[2] for code in found if code[2] and code[2][0][0] != "this"],
                         [(("a", False),), (("b", False),), (("c", False),)])

    def test_codes_in_all_parts_of_statements(self):
        found = named(
            "if fun(a) { } { fun(b) { }; } else { fun(c) { }; } while fun(d) { } { fun(e) { }; }"
            " try { fun(f) { }; } catch x { fun(g) { }; } fun(h) { }.y = fun(i) { }; fun(j) { }[fun(k) { }] = fun(l) { };"
            " throw fun(m) { }; say fun(n) { }; var z = fun(o) { };"
        )
        params = [code[2][0][0] for code in found[1:]]
        self.assertEqual("".join(params), "abcdefghijklmno")

    def test_how_many_parameters(self):
        found = named("fun f() { } fun g(a, b) { var c = 1; } class A { m() { } n(a) { } } say fun(a, b, c) { };")
        self.assertEqual([code[1] for code in found], [0, 0, 2, 1, 2, 3])

    def test_the_longest_names(self):
        name, other = "A" * 20, "m" * 20
        self.assertEqual(named(f"class {name} {{ {other}() {{ }} }}")[1][0], name + "." + other)


class Slots(unittest.TestCase):
    def test_this_parameters_and_the_others_as_they_stand(self):
        found = named(
            "class A { m(a, b) { var c = 1; if c { var d = 2; } else { var e = 3; } while a { var f = 4; }"
            " try { var g = 5; } catch h { var i = 6; } var j = 7; } }"
        )
        self.assertEqual([name for name, _ in found[1][2]], ["this", *"abcdefghij"])
        self.assertEqual({flag for _, flag in found[1][2]}, {False})

    def test_the_same_name_again_in_a_block_within_is_another_variable(self):
        text = "fun f(a) { if a { var a = a; a = 2; } else { a = 3; } return a; }"
        self.assertEqual(named(text)[1][2], (("a", False), ("a", False)))
        self.assertEqual(meant(text), [
            (1, "a", ("slot", 0)), (1, "a", ("slot", 0)), (1, "a", ("slot", 1)), (1, "a", ("slot", 0)), (1, "a", ("slot", 0)),
        ])

    def test_a_var_is_there_from_behind_its_statement_on(self):
        self.assertEqual(meant("var a = 1; if a { a = 2; var a = a; a = 3; } a = 4;"), [
            (0, "a", ("top", "a")), (0, "a", ("top", "a")), (0, "a", ("top", "a")), (0, "a", ("slot", 0)), (0, "a", ("top", "a")),
        ])

    def test_a_var_that_a_fun_in_its_own_expression_reads(self):
        text = "var a = 1; fun f(b) { if b { var a = fun() { return a; }; var c = fun() { return a; }; } }"
        self.assertEqual(meant(text), [
            (1, "b", ("slot", 0)), (2, "a", ("top", "a")), (3, "a", ("seen", 0)),
        ])
        self.assertEqual(named(text)[1][2], (("b", False), ("a", True), ("c", False)))

    def test_a_var_of_a_loops_block(self):
        text = "fun f(n) { while n { say n; var n = 1; say n; } say n; }"
        self.assertEqual([place for _, _, place in meant(text)], [("slot", 0), ("slot", 0), ("slot", 1), ("slot", 0)])

    def test_a_catchs_name_is_there_in_the_block_behind_it(self):
        text = "var e = 1; try { e; } catch e { e; if e { e = 1; } } e;"
        self.assertEqual([place for _, _, place in meant(text)],
                         [("top", "e"), ("slot", 0), ("slot", 0), ("slot", 0), ("top", "e")])

    def test_a_var_in_a_block_at_the_top_is_local(self):
        text = "if true { var a = 1; say a; } var b = 2; say b;"
        self.assertEqual(named(text), (("top", 0, (("a", False),), ()),))
        self.assertEqual(meant(text), [(0, "a", ("slot", 0)), (0, "b", ("top", "b"))])

    def test_a_top_name_that_is_read_ahead_of_where_it_stands(self):
        text = "say a; say f; a = 1; var a = a; fun f() { return a; }"
        self.assertEqual(meant(text), [
            (0, "a", ("top", "a")), (0, "f", ("top", "f")), (0, "a", ("top", "a")), (0, "a", ("top", "a")), (1, "a", ("top", "a")),
        ])

    def test_a_local_name_goes_ahead_of_a_top_name_only_while_it_is_there(self):
        text = "var a = 1; fun f() { if true { var a = 2; } return a; }"
        self.assertEqual(meant(text), [(1, "a", ("top", "a"))])

    def test_else_does_not_see_what_the_other_block_made(self):
        self.assertEqual(name_faults(read("if true { var a = 1; } else { say a; }")), [("unknown", "a")])


class Cells(unittest.TestCase):
    def test_what_a_fun_within_reads_or_sets_is_in_a_cell(self):
        text = "fun f(a, b, c) { var d = 1; fun() { a; b = 1; }; c = d; }"
        self.assertEqual(named(text)[1][2], (("a", True), ("b", True), ("c", False), ("d", False)))
        self.assertEqual(named(text)[2], ("fun", 0, (), (("a", (0, 0)), ("b", (0, 1)))))
        self.assertEqual(meant(text), [
            (2, "a", ("seen", 0)), (2, "b", ("seen", 1)), (1, "c", ("slot", 2)), (1, "d", ("slot", 3)),
        ])

    def test_uses_ahead_of_the_fun_are_of_the_cell_too(self):
        text = "fun f(a) { a = 1; return fun() { return a; }; }"
        self.assertEqual(meant(text), [(1, "a", ("cell", 0)), (2, "a", ("seen", 0))])

    def test_what_several_funs_capture(self):
        text = "fun f(a, b, c) { return fun(d) { c; return fun() { b; d; a; c; }; }; }"
        self.assertEqual(named(text)[1:], (
            ("f", 3, (("a", True), ("b", True), ("c", True)), ()),
            ("fun", 1, (("d", True),), (("c", (0, 2)), ("b", (0, 1)), ("a", (0, 0)))),
            ("fun", 0, (), (("b", (1, 1)), ("d", (0, 0)), ("a", (1, 2)), ("c", (1, 0)))),
        ))
        self.assertEqual(meant(text), [
            (2, "c", ("seen", 0)), (3, "b", ("seen", 0)), (3, "d", ("seen", 1)), (3, "a", ("seen", 2)), (3, "c", ("seen", 3)),
        ])

    def test_through_a_fun_that_reads_nothing_itself(self):
        text = "fun f(a) { fun() { fun() { fun() { a = 1; }; }; }; }"
        self.assertEqual([code[3] for code in named(text)],
                         [(), (), (("a", (0, 0)),), (("a", (1, 0)),), (("a", (1, 0)),)])

    def test_a_variable_is_captured_once(self):
        self.assertEqual(named("fun f(a) { fun() { a; a; fun() { a; a = a; }; a; }; }")[2][3], (("a", (0, 0)),))

    def test_two_variables_of_one_name_are_captured_as_two(self):
        text = "fun f(a) { if a { var b = fun() { a; }; var a = 1; fun() { a; }; } return fun() { a; }; }"
        self.assertEqual([code[3] for code in named(text)[2:]], [(("a", (0, 0)),), (("a", (0, 2)),), (("a", (0, 0)),)])
        text = "fun f(a) { return fun() { a; if a { var a = 2; fun() { a; }; } }; }"
        self.assertEqual([code[3] for code in named(text)[2:]], [(("a", (0, 0)),), (("a", (0, 0)),)])

    def test_the_set_name_is_met_ahead_of_its_expression(self):
        text = "fun f(a, b) { fun() { b = a; }; fun() { if a { } b; }; }"
        self.assertEqual([code[3] for code in named(text)[2:]],
                         [(("b", (0, 1)), ("a", (0, 0))), (("a", (0, 0)), ("b", (0, 1)))])

    def test_top_names_are_in_no_cell(self):
        text = "var a = 1; fun() { a; fun() { a = 2; }; };"
        self.assertEqual([code[2:] for code in named(text)], [((), ())] * 3)
        self.assertEqual(meant(text), [(1, "a", ("top", "a")), (2, "a", ("top", "a"))])

    def test_locals_of_code_0(self):
        text = "while true { var a = 1; fun() { a; }; }"
        self.assertEqual(named(text), (("top", 0, (("a", True),), ()), ("fun", 0, (), (("a", (0, 0)),))))

    def test_vars_and_catches_of_funs(self):
        text = "fun() { var a = 1; try { } catch e { fun() { e; a; }; } };"
        self.assertEqual(named(text)[1:], (
            ("fun", 0, (("a", True), ("e", True)), ()), ("fun", 0, (), (("e", (0, 1)), ("a", (0, 0)))),
        ))


class This(unittest.TestCase):
    def test_this_in_a_method(self):
        text = "class A { m(a) { return this; } }"
        self.assertEqual(named(text)[1], ("A.m", 2, (("this", False), ("a", False)), ()))
        self.assertEqual(meant(text), [(1, "this", ("slot", 0))])

    def test_this_and_super_in_funs_within_methods(self):
        text = "class A { } class B of A { m(a) { fun() { a; fun() { super.m(this); }; }; } n() { super.n(); } }"
        self.assertEqual(named(text)[1:], (
            ("B.m", 2, (("this", True), ("a", True)), ()),
            ("fun", 0, (), (("a", (0, 1)), ("this", (0, 0)))),
            ("fun", 0, (), (("this", (1, 1)),)),
            ("B.n", 1, (("this", False),), ()),
        ))
        self.assertEqual(meant(text), [
            (2, "a", ("seen", 0)), (3, "super", ("seen", 0)), (3, "this", ("seen", 0)), (4, "super", ("slot", 0)),
        ])

    def test_a_method_that_uses_this_and_keeps_it(self):
        text = "class A { m() { this.x = 1; return fun() { return this; }; } }"
        self.assertEqual(meant(text), [(1, "this", ("cell", 0)), (2, "this", ("seen", 0))])

    def test_super_stands_ahead_of_its_arguments(self):
        text = "class A { } class B of A { m(a) { super.m(a, this); } }"
        self.assertEqual([name for _, name, _ in meant(text)], ["super", "a", "this"])


class Meanings(unittest.TestCase):
    def test_only_names_that_are_read_or_set(self):
        self.assertEqual(meant("class A { x; m() { } } var a = 1; fun f(b) { try { } catch c { } break_(); } fun break_() { }"),
                         [(1 + 1, "break_", ("top", "break_"))])
        self.assertEqual(meant("var a = new A(1); a.x = a.m(a.y); class A { }"), [(0, "a", ("top", "a"))] * 3)

    def test_as_they_stand(self):
        text = "var a = 0; var b = 0; var c = 0; a[b] = c; a = b; a.x = b; say c + a * b; a(b, fun() { c; }, a); [b, a];"
        self.assertEqual("".join(name for _, name, _ in meant(text)), "abcababcababcaba")
        self.assertEqual([code for code, _, _ in meant(text)], [0] * 12 + [1, 0, 0, 0])


class New(unittest.TestCase):
    def test_what_was_told_and_is_changed_is_not_seen_by_a_second_call(self):
        program = read("fun f(a) { return fun() { return a; }; } say nil;")
        found = meanings(program)
        found.append(1)
        found[0] = None
        self.assertEqual(meanings(program), [(2, "a", ("seen", 0))])
        bad = read("say a; say b;")
        faults = name_faults(bad)
        faults.clear()
        self.assertEqual(name_faults(bad), [("unknown", "a"), ("unknown", "b")])

    def test_kinds_of_results(self):
        program = read("fun f(a) { return fun() { return a; }; }")
        self.assertIs(type(names(program)), tuple)
        for code in names(program):
            self.assertEqual([type(part) for part in code], [str, int, tuple, tuple])
            for _, flag in code[2]:
                self.assertIs(type(flag), bool)
        self.assertIs(type(meanings(program)), list)
        self.assertIs(type(called_anew(program)), tuple)
        self.assertIs(are_alike(program, program), True)


class Anew(unittest.TestCase):
    def test_local_variables_are_numbered_as_they_stand(self):
        self.assertEqual(
            anew("fun f(a, b) { var c = fun(d) { return d + a; }; try { } catch e { var g = e; } return c(b); }"),
            shown("fun f(v0, v1) { var v2 = fun(v3) { return v3 + v0; }; try { } catch v4 { var v5 = v4; } return v2(v1); }"),
        )
        self.assertEqual(anew("fun f(a) { } fun g(a) { } if true { var a = 1; }"),
                         shown("fun f(v0) { } fun g(v1) { } if true { var v2 = 1; }"))

    def test_other_names_stay(self):
        text = "class a { a; a(v) { this.a = v; } } var b = new a(1); fun c() { return b.a(b.a); } say c;"
        self.assertEqual(anew(text), shown(text.replace("(v)", "(v0)").replace("= v;", "= v0;")))

    def test_this_stays(self):
        self.assertEqual(anew("class A { } class B of A { m(a) { super.m(this, a); fun() { this; a; }; } }"),
                         shown("class A { } class B of A { m(v0) { super.m(this, v0); fun() { this; v0; }; } }"))

    def test_top_names_leave_their_numbers_out(self):
        self.assertEqual(anew("var v0 = 1; fun v2(a, b) { } fun f(c) { }"), shown("var v0 = 1; fun v2(v1, v3) { } fun f(v4) { }"))
        params = ", ".join("abcdefghijkl")
        wanted = ", ".join(f"v{at}" for at in [0, *range(2, 10), *range(11, 14)])
        self.assertEqual(anew(f"var v1 = 1; var v10 = 2; fun f({params}) {{ }}"),
                         shown(f"var v1 = 1; var v10 = 2; fun f({wanted}) {{ }}"))

    def test_top_names_that_stand_behind_leave_them_out_too(self):
        self.assertEqual(anew("fun f(a) { return v0; } var v0 = 1;"), shown("fun f(v1) { return v0; } var v0 = 1;"))

    def test_names_that_look_alike_leave_no_number_out(self):
        for name in ("v01", "vx", "v", "V0", "v0_", "v00", "v1a", "_v0"):
            self.assertEqual(anew(f"var {name} = 1; fun f(a, b) {{ }}"), shown(f"var {name} = 1; fun f(v0, v1) {{ }}"))

    def test_names_of_classes_fields_and_methods_leave_no_number_out(self):
        self.assertEqual(anew("class v0 { v1; v2() { } } fun f(a, b, c) { }"),
                         shown("class v0 { v1; v2() { } } fun f(v0, v1, v2) { }"))

    def test_local_variables_of_equal_names(self):
        self.assertEqual(anew("fun f(a) { if a { var a = a; if a { var a = a; a; } a; } a; }"),
                         shown("fun f(v0) { if v0 { var v1 = v0; if v1 { var v2 = v1; v2; } v1; } v0; }"))

    def test_locals_that_are_called_so_already(self):
        self.assertEqual(anew("fun f(v1, v0) { return v1 + v0; }"), shown("fun f(v0, v1) { return v0 + v1; }"))

    def test_an_elder_and_texts_stay(self):
        text = 'class A { } class B of A { } fun f(v0) { say "a"; say 1; return v0; }'
        self.assertEqual(anew(text.replace("v0", "a")), shown(text))

    def test_called_anew_a_second_time(self):
        for seed in range(200):
            once = called_anew(drawn(seed))
            self.assertEqual(called_anew(once), once)


class Alike(unittest.TestCase):
    def test_programs_that_are_alike(self):
        for one, other in (
            ("", ""), ("fun f(a) { return a; }", "fun f(b) { return b; }"),
            ("try { } catch a { say a; }", "try { } catch b { say b; }"),
            ("fun f(a) { if a { var b = a; } return a; }", "fun f(b) { if b { var b = b; } return b; }"),
            ("fun f(a, b) { return a; }", "fun f(b, a) { return b; }"),
        ):
            self.assertIs(are_alike(read(one), read(other)), True, (one, other))

    def test_programs_that_differ_in_one_thing(self):
        for one, other in (
            ("", "say 1;"), ("say 1;", "say 2;"), ("var a = 1;", "var b = 1;"), ("fun f() { }", "fun g() { }"),
            ("fun f(a, b) { return a; }", "fun f(a, b) { return b; }"), ("fun f(a) { }", "fun f(a, b) { }"),
            ("fun f(a) { if a { var b = a; } return a; }", "fun f(a) { if a { var a = a; return a; } return a; }"),
            ("class A { x; }", "class A { y; }"), ("class A { }", "class B { }"), ("class A { m() { } }", "class A { n() { } }"),
            ("class A { } class B { }", "class A { } class B of A { }"), ('say "a";', 'say "b";'),
            ("fun f(a) { return a.x; }", "fun f(a) { return a.y; }"), ("fun f(a) { a.x(); }", "fun f(a) { a.y(); }"),
            ("var a = 1; fun f(b) { return a; }", "var a = 1; fun f(b) { return b; }"),
        ):
            self.assertIs(are_alike(read(one), read(other)), False, (one, other))

    def test_the_errors_of_the_one_ahead_of_those_of_the_other(self):
        good, bad, worse = read("say 1;"), read("say a;"), read("break; say b;")
        self.assertEqual(told(are_alike, good, bad), ("BadNames", "unknown", "a"))
        self.assertEqual(told(are_alike, bad, good), ("BadNames", "unknown", "a"))
        self.assertEqual(told(are_alike, bad, worse), ("BadNames", "unknown", "a"))
        self.assertEqual(told(are_alike, worse, bad), ("BadNames", "loop", "break"))
        self.assertEqual(told(are_alike, bad, None), ("BadNames", "unknown", "a"))
        self.assertEqual(told(are_alike, None, bad), ("NoProgram",))
        self.assertEqual(told(are_alike, good, None), ("NoProgram",))
        self.assertEqual(told(are_alike, [], 3), ("NoProgram",))


class Errors(unittest.TestCase):
    def test_what_is_no_program(self):
        for call in (name_faults, names, meanings, called_anew):
            for odd in NO_PROGRAMS:
                self.assertEqual(told(call, odd), ("NoProgram",), repr(odd)[:60])

    def test_the_first_fault(self):
        program = read("say 1; x = 2; break; fun f(a, a) { return y; }")
        self.assertEqual(name_faults(program),
                         [("unknown", "x"), ("loop", "break"), ("twice", "a"), ("unknown", "y")])
        for call in (names, meanings, called_anew):
            self.assertEqual(told(call, program), ("BadNames", "unknown", "x"))


class Facts(unittest.TestCase):
    def test_called_anew_differs_in_names_of_local_variables_alone(self):
        for seed in range(300):
            program = drawn(seed)
            other = called_anew(program)
            self.assertEqual(name_faults(other), [])
            bare = [(code[0], code[1], [flag for _, flag in code[2]], [at for _, at in code[3]]) for code in names(program)]
            self.assertEqual(bare, [(c[0], c[1], [flag for _, flag in c[2]], [at for _, at in c[3]]) for c in names(other)])
            self.assertEqual([(code, place) for code, _, place in meanings(program)],
                             [(code, place) for code, _, place in meanings(other)])
            self.assertTrue(are_alike(program, other))
            tops = {item[1] for item in program if item[0] in ("function", "var")}
            local = [name for code in names(other) for name, _ in code[2] if name != "this"]
            self.assertEqual(len(set(local)), len(local))
            self.assertFalse(tops & set(local))

    def test_each_captured_one_is_one_variable_of_a_code_around(self):
        for seed in range(300):
            found = names(drawn(seed))
            for _, _, _, captured in found:
                self.assertEqual(len({place for _, place in captured}), len(captured))
            for code, name, place in meanings(drawn(seed)):
                if place[0] == "seen":
                    self.assertEqual(found[code][3][place[1]][0], "this" if name == "super" else name)
                elif place[0] in ("slot", "cell"):
                    self.assertEqual(found[code][2][place[1]], ("this" if name == "super" else name, place[0] == "cell"))

    def test_names_told_a_second_time(self):
        many = 0
        for seed in range(400):
            self.assertEqual(names(drawn(seed)), names_told(drawn(seed)))
        for seed in range(4000):
            program = Maker(seed).program(5)
            if not name_faults(program):
                self.assertEqual(names(program), names_told(program))
                many += len(names(program)) > 2
        self.assertGreater(many, 25)

    def test_programs_by_chance_have_names_or_faults(self):
        for seed in range(600):
            program = Maker(seed).program(5)
            faults = name_faults(program)
            if faults:
                self.assertEqual(told(names, program), ("BadNames", *faults[0]))
                self.assertEqual(told(meanings, program), ("BadNames", *faults[0]))
            else:
                self.assertEqual(names(program)[0][:2], ("top", 0))


if __name__ == "__main__":
    unittest.main()
