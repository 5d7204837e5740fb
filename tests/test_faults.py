"""[2.2] name_faults(program), faults_by_line(text)."""

import unittest

from tests.drawn_programs import drawn
from tests.sample_trees import Maker, Writer
from tests.told import NO_STRINGS, told
from unseenheap.names import faults_by_line, name_faults
from unseenheap.reading import read
from unseenheap.showing import show

SIGHTED_KEYS = ("this", "super", "break", "continue", "return")


def faults(text):
    return name_faults(read(text))


class Twice(unittest.TestCase):
    def test_a_class(self):
        self.assertEqual(faults("class A { } class B { } class A { } class A { }"), [("twice", "A"), ("twice", "A")])

    def test_a_top_name(self):
        self.assertEqual(faults("var a = 1; var a = 2;"), [("twice", "a")])
        self.assertEqual(faults("fun a() { } fun a() { }"), [("twice", "a")])
        self.assertEqual(faults("var a = 1; fun a() { }"), [("twice", "a")])
        self.assertEqual(faults("fun a() { } say 1; var a = 1;"), [("twice", "a")])

    def test_a_method(self):
        self.assertEqual(faults("class A { m() { } n() { } m(a) { } m() { } }"), [("twice", "m"), ("twice", "m")])

    def test_a_field(self):
        self.assertEqual(faults("class A { x; y; x; x; }"), [("twice", "x"), ("twice", "x")])

    def test_a_field_of_an_elder(self):
        self.assertEqual(faults("class A { x; } class B of A { y; x; }"), [("twice", "x")])
        self.assertEqual(faults("class A { x; } class B of A { y; } class C of B { z; x; y; }"), [("twice", "x"), ("twice", "y")])
        self.assertEqual(faults("class A { x; } class B { y; } class C of B { x; }"), [])

    def test_a_method_of_an_elder_is_none(self):
        self.assertEqual(faults("class A { m() { } } class B of A { m() { } }"), [])

    def test_a_parameter(self):
        self.assertEqual(faults("fun f(a, b, a, a) { }"), [("twice", "a"), ("twice", "a")])
        self.assertEqual(faults("class A { m(a, a) { } }"), [("twice", "a")])
        self.assertEqual(faults("say fun(b, a, b) { };"), [("twice", "b")])

    def test_a_var_of_a_block(self):
        self.assertEqual(faults("if true { var a = 1; var b = 2; var a = 3; }"), [("twice", "a")])
        self.assertEqual(faults("if true { } else { var a = 1; var a = 2; }"), [("twice", "a")])
        self.assertEqual(faults("while true { var a = 1; var a = 2; }"), [("twice", "a")])
        self.assertEqual(faults("try { var a = 1; var a = 2; } catch e { }"), [("twice", "a")])
        self.assertEqual(faults("fun f() { var a = 1; var a = 2; }"), [("twice", "a")])
        self.assertEqual(faults("class A { m() { var a = 1; var a = a; } }"), [("twice", "a")])

    def test_vars_with_parameters_and_with_a_catchs_name(self):
        self.assertEqual(faults("fun f(a) { var a = 1; }"), [("twice", "a")])
        self.assertEqual(faults("say fun(a) { var a = 1; };"), [("twice", "a")])
        self.assertEqual(faults("class A { m(a) { var b = 1; var a = 1; } }"), [("twice", "a")])
        self.assertEqual(faults("try { } catch a { var a = 1; }"), [("twice", "a")])

    def test_places_alike_but_not_one_place(self):
        for text in (
            "fun f(a) { if a { var a = 1; } }", "if true { var a = 1; if a { var a = 2; } }", "var a = 1; fun f(a) { }",
            "var a = 1; if a { var a = 2; }", "if true { var a = 1; try { } catch a { } }", "try { var a = 1; } catch a { }",
            "try { } catch a { try { } catch a { } }", "try { } catch a { if a { var a = 1; } }", "fun f(a) { say fun(a) { }; }",
            "if true { var a = 1; } else { var a = 2; }", "var A = 1; class A { }", "class A { A; A() { } }",
            "class A { x; x() { } }", "class A { x; } class B { x; }", "class A { m(m) { } }", "fun f(f) { }",
            "try { } catch a { } try { } catch a { }", "fun f(a) { try { } catch a { } }", "if true { var a = 1; var b = fun(a) { var b = 1; }; }",
            "if true { var a = 1; } var a = 2;", "class A { x; m() { } } class B of A { y; m() { } }", "class A { m() { } x(a) { } }",
        ):
            self.assertEqual(faults(text), [], text)

    def test_the_first_and_the_second_var_of_one_name(self):
        self.assertEqual(faults("fun f() { var a = 1; a; var a = a; a; }"), [("twice", "a")])


class Unknown(unittest.TestCase):
    def test_names_that_are_read_or_set(self):
        self.assertEqual(faults("say a; b = 1; c.x = d; e[f] = g; h(i); j.m(k);"), [("unknown", name) for name in "abcdefghijk"])

    def test_names_of_fields_methods_and_classes_are_none(self):
        self.assertEqual(faults("class A { } var a = 1; a.x = a.y(a.z()); say new A();"), [])
        self.assertEqual(faults("class A { x; m() { } } say A; say x; say m;"), [("unknown", "A"), ("unknown", "x"), ("unknown", "m")])

    def test_names_that_are_not_there_any_more_or_not_yet(self):
        self.assertEqual(faults("if true { var a = 1; } say a;"), [("unknown", "a")])
        self.assertEqual(faults("if true { say a; var a = a; say a; }"), [("unknown", "a"), ("unknown", "a")])
        self.assertEqual(faults("while a { var a = 1; }"), [("unknown", "a")])
        self.assertEqual(faults("try { say a; } catch a { say a; } say a;"), [("unknown", "a"), ("unknown", "a")])
        self.assertEqual(faults("say fun(a) { }(a);"), [("unknown", "a")])
        self.assertEqual(faults("fun f(a) { } fun g() { return a; }"), [("unknown", "a")])
        self.assertEqual(faults("if true { var a = fun() { return a; }; }"), [("unknown", "a")])

    def test_top_names_are_everywhere(self):
        self.assertEqual(faults("say a; fun f() { return g(a); } fun g() { } class A { m() { return a; } } var a = a;"), [])


class Classes(unittest.TestCase):
    def test_new_of_what_is_no_class(self):
        self.assertEqual(faults("var a = 1; fun f() { } say new a(); say new f(); say new B(new C(x));"),
                         [("class", "a"), ("class", "f"), ("class", "B"), ("class", "C"), ("unknown", "x")])

    def test_new_of_a_class_that_stands_behind_or_around(self):
        self.assertEqual(faults("say new A(); class A { m() { return new A(); } }"), [])

    def test_an_elder(self):
        self.assertEqual(faults("class A of B { }"), [("elder", "B")])
        self.assertEqual(faults("class A of B { } class B { }"), [("elder", "B")])
        self.assertEqual(faults("class A of A { }"), [("elder", "A")])
        self.assertEqual(faults("var B = 1; fun C() { } class A of B { } class D of C { }"), [("elder", "B"), ("elder", "C")])
        self.assertEqual(faults("class A { } class B of A { } class C of B { }"), [])

    def test_of_classes_of_one_name_the_last_one_ahead_is_meant(self):
        self.assertEqual(faults("class A { x; } class A { y; } class B of A { x; y; }"), [("twice", "A"), ("twice", "y")])
        self.assertEqual(faults("class A { x; } class A of A { x; }"), [("twice", "A"), ("twice", "x")])
        self.assertEqual(faults("class A { x; } class B of A { y; } class A { z; } class C of B { x; y; z; }"),
                         [("twice", "A"), ("twice", "x"), ("twice", "y")])
        self.assertEqual(faults("class A { x; } class A of A { y; } class C of A { x; y; }"),
                         [("twice", "A"), ("twice", "x"), ("twice", "y")])
        self.assertEqual(faults("class A { x; } class B of A { } class A { y; }  class C of A { x; }"), [("twice", "A")])

    def test_a_class_without_its_elder_has_its_own_fields_alone(self):
        self.assertEqual(faults("class A of B { x; } class B { y; } class C of A { y; x; }"), [("elder", "B"), ("twice", "x")])


class Keys(unittest.TestCase):
    def test_this_where_no_method_is_around(self):
        self.assertEqual(faults("say this;"), [("this", "this")])
        self.assertEqual(faults("fun f() { return this; }"), [("this", "this")])
        self.assertEqual(faults("say fun() { return this; };"), [("this", "this")])
        self.assertEqual(faults("this.x = this;"), [("this", "this"), ("this", "this")])
        self.assertEqual(faults("class A { m() { } } say this;"), [("this", "this")])

    def test_this_in_methods_and_in_funs_within(self):
        self.assertEqual(faults("class A { m() { this; fun() { this; fun() { this.x = 1; }; }; } }"), [])

    def test_super(self):
        self.assertEqual(faults("super.m();"), [("super", "super")])
        self.assertEqual(faults("fun f() { super.m(); }"), [("super", "super")])
        self.assertEqual(faults("class A { m() { super.m(); } }"), [("super", "super")])
        self.assertEqual(faults("class A { m() { fun() { super.m(); }; } }"), [("super", "super")])
        self.assertEqual(faults("class A { } class B of A { } class C { m() { super.m(); } } super.m();"),
                         [("super", "super"), ("super", "super")])
        self.assertEqual(faults("class A { } class B of A { m() { super.x(); fun() { super.x(); }; } }"), [])

    def test_super_in_a_class_whose_elder_is_none(self):
        self.assertEqual(faults("class A of B { m() { super.m(); } }"), [("elder", "B")])
        self.assertEqual(faults("class A of B { m() { super.m(); } } class C { m() { super.m(); } }"),
                         [("elder", "B"), ("super", "super")])

    def test_loops(self):
        self.assertEqual(faults("break; continue;"), [("loop", "break"), ("loop", "continue")])
        self.assertEqual(faults("if true { break; } try { continue; } catch e { break; }"),
                         [("loop", "break"), ("loop", "continue"), ("loop", "break")])
        self.assertEqual(faults("while true { if true { break; } try { continue; } catch e { break; } } break;"), [("loop", "break")])
        self.assertEqual(faults("while true { fun() { break; while true { break; } continue; }; continue; }"),
                         [("loop", "break"), ("loop", "continue")])
        self.assertEqual(faults("while true { while true { } break; } fun f() { continue; }"), [("loop", "continue")])

    def test_return(self):
        self.assertEqual(faults("return 1;"), [("return", "return")])
        self.assertEqual(faults("if true { while true { return 1; } }"), [("return", "return")])
        self.assertEqual(faults("say fun() { return 1; }; fun f() { return 1; } class A { m() { return 1; } }"), [])
        self.assertEqual(faults("say fun() { return fun() { return 1; }; }; return a;"), [("return", "return"), ("unknown", "a")])


class Order(unittest.TestCase):
    def test_as_they_stand(self):
        self.assertEqual(
            faults(
                "class A of Q { x; x; m(p, p) { super.y(a); } m() { var z = b; var z = this; } }"
                " class A { m() { super.m(new R(c), super.n()); } }"
                " d = new S(e); fun f(g) { var g = h; break; return i; } var f = j; return continue_; while k { continue; }"
                " try { l = this; } catch m { var m = super.o(n); }"
            ),
            [("elder", "Q"), ("twice", "x"), ("twice", "p"), ("unknown", "a"), ("twice", "m"), ("unknown", "b"), ("twice", "z"),
             ("twice", "A"), ("super", "super"), ("class", "R"), ("unknown", "c"), ("super", "super"),
             ("unknown", "d"), ("class", "S"), ("unknown", "e"), ("twice", "g"), ("unknown", "h"), ("loop", "break"),
             ("unknown", "i"), ("twice", "f"), ("unknown", "j"), ("return", "return"), ("unknown", "continue_"),
             ("unknown", "k"), ("unknown", "l"), ("this", "this"), ("twice", "m"), ("super", "super"), ("unknown", "n")],
        )

    def test_the_name_of_a_var_stands_ahead_of_its_expression(self):
        self.assertEqual(faults("var a = 1; var a = b;"), [("twice", "a"), ("unknown", "b")])


class Lines(unittest.TestCase):
    def test_faults_on_several_lines(self):
        text = "class A of B {\n x;\n x; m(\n a, a) { super\n.m(\nq); }\n}\n# this\nreturn \"break\n".replace("\"break\n", "\"break\"; break\n;")
        self.assertEqual(faults_by_line(text), [
            (1, "elder", "B"), (3, "twice", "x"), (4, "twice", "a"), (6, "unknown", "q"), (9, "return", "return"), (9, "loop", "break"),
        ])

    def test_no_faults(self):
        self.assertEqual(faults_by_line(""), [])
        self.assertEqual(faults_by_line("say\n1;"), [])

    def test_the_line_is_that_of_the_word(self):
        self.assertEqual(faults_by_line("say (\na\n);\n(\nb\n)\n= 1\n;new\nC\n();this\n;\ncontinue\n;"), [
            (2, "unknown", "a"), (5, "unknown", "b"), (9, "class", "C"), (10, "this", "this"), (12, "loop", "continue"),
        ])

    def test_texts_and_notes_are_no_words_of_names(self):
        self.assertEqual(faults_by_line('say "this";\n"super"; "break"; "continue"; "return"; "a"; # this a\nsay a;\n5;\nthis;\n"this";\nreturn\nb;'),
                         [(3, "unknown", "a"), (5, "this", "this"), (7, "return", "return"), (8, "unknown", "b")])

    def test_errors(self):
        for odd in NO_STRINGS:
            self.assertEqual(told(faults_by_line, odd), ("NoText",), repr(odd)[:60])
        self.assertEqual(told(faults_by_line, "say a;\nsay ?;"), ("BadText", 2))
        self.assertEqual(told(faults_by_line, "say a;\nsay b"), ("BadText", 2))
        self.assertEqual(told(faults_by_line, "say " + "-" * 50 + "a;"), ("TooDeep",))
        self.assertEqual(told(faults_by_line, "say " + "-" * 48 + "a;"), [(1, "unknown", "a")])

    def test_drawn_programs_with_faults(self):
        """The text of each fault's line has its name, and the words and names are those of name_faults."""
        for seed in range(400):
            program = Maker(seed).program(5)
            for text in (show(program), Writer(seed).program(program)):
                found = faults_by_line(text)
                self.assertEqual([fault[1:] for fault in found], name_faults(program))
                rows = text.split("\n")
                for line, _, name in found:
                    self.assertIn(name, rows[line - 1])
                self.assertEqual([line for line, _, _ in found], sorted(line for line, _, _ in found))

    def test_each_word_in_a_line_of_its_own(self):
        """One word in each line, so the line tells the word: that of the fault must be just this word."""
        for seed in range(300):
            program = Maker(seed).program(4)
            words = Writer(seed)
            words.spaced = lambda parts: "\n".join(parts)
            rows = words.program(program).split("\n")
            if any('"' in row for row in rows):
                continue
            for line, _, name in faults_by_line("\n".join(rows)):
                self.assertEqual(rows[line - 1], name)


class Drawn(unittest.TestCase):
    def test_none(self):
        for seed in range(200):
            self.assertEqual(name_faults(drawn(seed)), [])


if __name__ == "__main__":
    unittest.main()
