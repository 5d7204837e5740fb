"""[1.2], [1.3] read(text): the trees of all forms, how words bind, depth."""

import random
import unittest

from tests.sample_trees import Maker, Writer
from tests.told import NO_STRINGS, told
from unseenheap.errors import NoText, TooDeep
from unseenheap.reading import read

A, B, C, D = ("name", "a"), ("name", "b"), ("name", "c"), ("name", "d")
DOUBLE = {"or": 1, "and": 2, "==": 4, "!=": 4, "<": 4, "<=": 4, ">": 4, ">=": 4, "+": 5, "-": 5, "*": 6, "/": 6, "mod": 6}


def e(text):
    """The expression that a text is."""
    ((word, tree),) = read(f"say {text};")
    assert word == "say"
    return tree


class Items(unittest.TestCase):
    def test_nothing(self):
        for text in ("", "\n\n", "# note", " \n# note\n"):
            self.assertEqual(read(text), ())

    def test_classes(self):
        self.assertEqual(read("class A { }"), (("class", "A", None, (), ()),))
        self.assertEqual(read("class A of B { }"), (("class", "A", "B", (), ()),))
        self.assertEqual(read("class A { x; y; x; }"), (("class", "A", None, ("x", "y", "x"), ()),))
        self.assertEqual(
            read("class A of A { x; m() { } n(a, b) { return this; say a; } }"),
            (("class", "A", "A", ("x",), (("m", (), ()), ("n", ("a", "b"), (("return", ("this",)), ("say", A))))),),
        )
        self.assertEqual(read("class A { m(a) { } }"), (("class", "A", None, (), (("m", ("a",), ()),)),))

    def test_functions(self):
        self.assertEqual(read("fun f() { }"), (("function", "f", (), ()),))
        self.assertEqual(read("fun f(a) { break; }"), (("function", "f", ("a",), (("break",),)),))
        self.assertEqual(read("fun f(a, b, a) { }"), (("function", "f", ("a", "b", "a"), ()),))

    def test_items_in_any_order(self):
        self.assertEqual(
            read("say a; fun f() { } class A { } a; fun g() { }"),
            (("say", A), ("function", "f", (), ()), ("class", "A", None, (), ()), ("do", A), ("function", "g", (), ())),
        )

    def test_what_begins_with_fun(self):
        self.assertEqual(read("fun () { };"), (("do", ("fun", (), ())),))
        self.assertEqual(read("fun (a) { }(b);"), (("do", ("call", ("fun", ("a",), ()), (B,))),))
        self.assertEqual(read("fun (a) { }[b] = c;"), (("set", ("item", ("fun", ("a",), ()), B), C),))
        self.assertEqual(read("fun f(a) { } (b);"), (("function", "f", ("a",), ()), ("do", B)))
        self.assertEqual(read("fun f() { } [b];"), (("function", "f", (), ()), ("do", ("list", (B,)))))
        self.assertEqual(read("if a { fun () { }(); }"), (("if", A, (("do", ("call", ("fun", (), ()), ())),), ()),))


class Statements(unittest.TestCase):
    def test_each_form(self):
        for text, tree in (
            ("var a = b;", ("var", "a", B)),
            ("a;", ("do", A)),
            ("a(b);", ("do", ("call", A, (B,)))),
            ("a = b;", ("set", A, B)),
            ("if a { }", ("if", A, (), ())),
            ("if a { b; } else { c; d; }", ("if", A, (("do", B),), (("do", C), ("do", D)))),
            ("if a { } else { }", ("if", A, (), ())),
            ("if a { } else { b; }", ("if", A, (), (("do", B),))),
            ("while a { b; }", ("while", A, (("do", B),))),
            ("break;", ("break",)),
            ("continue;", ("continue",)),
            ("return a;", ("return", A)),
            ("throw a;", ("throw", A)),
            ("try { a; } catch b { c; }", ("try", (("do", A),), "b", (("do", C),))),
            ("try { } catch a { }", ("try", (), "a", ())),
            ("say a;", ("say", A)),
        ):
            self.assertEqual(read(text), (tree,), text)
            self.assertEqual(read("fun f() {" + text + "}"), (("function", "f", (), (tree,)),), text)
            self.assertEqual(read("class A { m() {" + text + "} }"), (("class", "A", None, (), (("m", (), (tree,)),)),))
            self.assertEqual(read("fun() {" + text + "};"), (("do", ("fun", (), (tree,))),), text)

    def test_two_ifs_one_behind_the_other(self):
        self.assertEqual(
            read("if a { if b { } } else { } if c { } else { d; }"),
            (("if", A, (("if", B, (), ()),), ()), ("if", C, (), (("do", D),))),
        )

    def test_an_if_or_while_of_a_fun(self):
        self.assertEqual(read("if fun() { } { a; }"), (("if", ("fun", (), ()), (("do", A),), ()),))
        self.assertEqual(read("while (a) { }"), (("while", A, ()),))
        self.assertEqual(read("if (a) (b) { }"), (("if", ("call", A, (B,)), (), ()),))

    def test_places(self):
        for text, place in (
            ("a", A), ("(a)", A), ("((a))", A), ("a.b", ("field", A, "b")), ("(a.b)", ("field", A, "b")),
            ("a[b]", ("item", A, B)), ("(((a[b])))", ("item", A, B)), ("(a).b", ("field", A, "b")),
            ("this.b", ("field", ("this",), "b")), ("a().b", ("field", ("call", A, ()), "b")),
            ("a.b()[c]", ("item", ("send", A, "b", ()), C)), ("1[2]", ("item", ("number", 1), ("number", 2))),
            ("(a + b).c", ("field", ("+", A, B), "c")), ("[a][b]", ("item", ("list", (A,)), B)),
            ("new a().b", ("field", ("new", "a", ()), "b")), ("len(a).b", ("field", ("ask", "len", (A,)), "b")),
        ):
            self.assertEqual(read(text + " = d;"), (("set", place, D),), text)
            self.assertEqual(read(text + ";"), (("do", place),), text)


class Expressions(unittest.TestCase):
    def test_each_form(self):
        for text, tree in (
            ("0", ("number", 0)),
            (str(2 ** 59 - 1), ("number", 2 ** 59 - 1)),
            ('""', ("text", "")),
            ('"a""b"', ("text", 'a"b')),
            ('"name"', ("text", "name")),
            ("a", A),
            ("END", ("name", "END")),
            ("true", ("true",)),
            ("false", ("false",)),
            ("nil", ("nil",)),
            ("this", ("this",)),
            ("(a)", A),
            ("[]", ("list", ())),
            ("[a]", ("list", (A,))),
            ("[a, [b], c]", ("list", (A, ("list", (B,)), C))),
            ("fun() { }", ("fun", (), ())),
            ("fun(a, b) { return a; }", ("fun", ("a", "b"), (("return", A),))),
            ("super.m()", ("up", "m", ())),
            ("super.m(a, b)", ("up", "m", (A, B))),
            ("new C()", ("new", "C", ())),
            ("new C(a or b)", ("new", "C", (("or", A, B),))),
            ("yield()", ("ask", "yield", ())),
            ("a()", ("call", A, ())),
            ("a(b, c)", ("call", A, (B, C))),
            ("a.m()", ("send", A, "m", ())),
            ("a.m(b)", ("send", A, "m", (B,))),
            ("a.x", ("field", A, "x")),
            ("a[b]", ("item", A, B)),
            ("not a", ("not", A)),
            ("-a", ("minus", A)),
            ("-2", ("minus", ("number", 2))),
        ):
            self.assertEqual(e(text), tree, text)
        for key in ("len", "weak", "worth", "number", "spawn", "join"):
            self.assertEqual(e(f"{key}(a)"), ("ask", key, (A,)))
        for word in DOUBLE:
            self.assertEqual(e(f"a {word} b"), (word, A, B))

    def test_what_stands_behind(self):
        for text, tree in (
            ("a.b.c", ("field", ("field", A, "b"), "c")),
            ("a.b(c).d", ("field", ("send", A, "b", (C,)), "d")),
            ("(a.b)(c)", ("call", ("field", A, "b"), (C,))),
            ("(a.b(c))(d)", ("call", ("send", A, "b", (C,)), (D,))),
            ("a.b[c](d)", ("call", ("item", ("field", A, "b"), C), (D,))),
            ("a()(b)[c]", ("item", ("call", ("call", A, ()), (B,)), C)),
            ("new A(b)(c)", ("call", ("new", "A", (B,)), (C,))),
            ("super.m()(c)", ("call", ("up", "m", ()), (C,))),
            ("yield().a", ("field", ("ask", "yield", ()), "a")),
            ("len(a)(b)", ("call", ("ask", "len", (A,)), (B,))),
            ("[a](b)", ("call", ("list", (A,)), (B,))),
            ("1(2)", ("call", ("number", 1), (("number", 2),))),
            ('"a".b', ("field", ("text", "a"), "b")),
            ("fun() { }()", ("call", ("fun", (), ()), ())),
            ("-a.b", ("minus", ("field", A, "b"))),
            ("-a(b)", ("minus", ("call", A, (B,)))),
            ("-a[b]", ("minus", ("item", A, B))),
            ("not a.b()", ("not", ("send", A, "b", ()))),
            ("(-a).b", ("field", ("minus", A), "b")),
            ("(not a)(b)", ("call", ("not", A), (B,))),
            ("a + b.c", ("+", A, ("field", B, "c"))),
            ("(a + b)[c]", ("item", ("+", A, B), C)),
        ):
            self.assertEqual(e(text), tree, text)

    def test_how_each_pair_of_words_binds(self):
        for left, low in DOUBLE.items():
            for right, high in DOUBLE.items():
                if low == high == 4:
                    self.assertEqual(told(read, f"say a {left} b\n{right} c;"), ("BadText", 2))
                elif low >= high:
                    self.assertEqual(e(f"a {left} b {right} c"), (right, (left, A, B), C))
                else:
                    self.assertEqual(e(f"a {left} b {right} c"), (left, A, (right, B, C)))
                self.assertEqual(e(f"a {left} (b {right} c)"), (left, A, (right, B, C)))
                self.assertEqual(e(f"(a {left} b) {right} c"), (right, (left, A, B), C))

    def test_how_words_ahead_bind(self):
        for word, level in DOUBLE.items():
            self.assertEqual(e(f"-a {word} b"), (word, ("minus", A), B))
            self.assertEqual(e(f"a {word} -b"), (word, A, ("minus", B)))
            self.assertEqual(e(f"-(a {word} b)"), ("minus", (word, A, B)))
            self.assertEqual(e(f"not (a {word} b)"), ("not", (word, A, B)))
            if level < 3:
                self.assertEqual(e(f"not a {word} b"), (word, ("not", A), B))
                self.assertEqual(e(f"a {word} not b"), (word, A, ("not", B)))
            else:
                self.assertEqual(e(f"not a {word} b"), ("not", (word, A, B)))
                self.assertEqual(told(read, f"say a {word}\nnot b;"), ("BadText", 2))
            self.assertEqual(e(f"a {word} (not b)"), (word, A, ("not", B)))
        self.assertEqual(e("not not a"), ("not", ("not", A)))
        self.assertEqual(e("--a"), ("minus", ("minus", A)))
        self.assertEqual(e("not -a"), ("not", ("minus", A)))
        self.assertEqual(e("a - -b"), ("-", A, ("minus", B)))
        self.assertEqual(told(read, "say -\nnot a;"), ("BadText", 2))
        self.assertEqual(e("-(not a)"), ("minus", ("not", A)))

    def test_many_words_at_once(self):
        self.assertEqual(
            e("a or b and not c == d + a * -b.c"),
            ("or", A, ("and", B, ("not", ("==", C, ("+", D, ("*", A, ("minus", ("field", B, "c"))))))))
        )
        self.assertEqual(
            e("-a.b * c + d < a and b or c"),
            ("or", ("and", ("<", ("+", ("*", ("minus", ("field", A, "b")), C), D), A), B), C),
        )
        self.assertEqual(e("a < b and b <= c"), ("and", ("<", A, B), ("<=", B, C)))
        self.assertEqual(e("not a < b and c"), ("and", ("not", ("<", A, B)), C))

    def test_needless_parentheses_leave_no_trace(self):
        self.assertEqual(read("say ((((a)) + ((b))));"), read("say a + b;"))
        self.assertEqual(read("((a))((b), ((c)));"), read("a(b, c);"))
        self.assertEqual(read("((a)) = (b);"), read("a = b;"))

    def test_notes_and_line_feeds_leave_no_trace(self):
        self.assertEqual(read("say#a\na#b\n.\n\nb\n(\n)\n;#"), read("say a.b();"))


class Depth(unittest.TestCase):
    def test_50_and_51(self):
        for deep in (
            lambda many: "-" * (many - 2) + "a;",
            lambda many: "a" + ".b" * (many - 2) + ";",
            lambda many: "a" + "+a" * (many - 2) + ";",
            lambda many: "say " + "[" * (many - 1) + "]" * (many - 1) + ";",
            lambda many: "if a {" * (many - 3) + "if a { } else { a; }" + "}" * (many - 3),
            lambda many: "while a {" * (many - 1) + "break;" + "}" * (many - 1),
            lambda many: "class A { m() {" + "while a {" * (many - 1) + "break;" + "}" * (many - 1) + "} }",
            lambda many: "fun f() {" + "try {" * (many - 1) + "break;" + "} catch a { }" * (many - 1) + "}",
            lambda many: "fun f() {" + "try { } catch a {" * (many - 1) + "break;" + "}" * (many - 1) + "}",
            lambda many: "a; a = " + "not " * (many - 2) + "b; a;",
            lambda many: "a" + "[0]" * (many - 2) + " = 1;",
        ):
            self.assertGreater(len(read(deep(50))), 0)
            with self.assertRaises(TooDeep, msg=deep(51)):
                read(deep(51))

    def test_parentheses_make_nothing_deeper(self):
        text = "(" * 60 + "-" * 48 + "a" + ")" * 60 + ";"
        self.assertEqual(read(text), read("-" * 48 + "a;"))

    def test_thousands_in_a_row(self):
        for text in (
            "say " + "-" * 15000 + "a;", "say " + "not " * 4000 + "a;", "say a" + " + a" * 4000 + ";",
            "say a" + " or a" * 3000 + ";", "say a" + ".b" * 8000 + ";", "say a" + "()" * 8000 + ";",
            "say a" + "[0]" * 5000 + ";", "say a" + ".b()" * 4000 + ";", "a" + ".b" * 8000 + " = 1;",
            "-" * 200000 + "a;", "say " + "not " * 2000 + "-" * 5000 + "a" + "*b" * 2000 + ";",
        ):
            self.assertEqual(told(read, text), ("TooDeep",), text[:20])

    def test_thousands_side_by_side(self):
        self.assertEqual(len(read("a;" * 9000)), 9000)
        self.assertEqual(len(e("[" + "a," * 9000 + "a]")[1]), 9001)
        self.assertEqual(len(read("class A {" + "a;" * 5000 + "}")[0][3]), 5000)


class Trees(unittest.TestCase):
    def test_no_string(self):
        for thing in NO_STRINGS:
            with self.assertRaises(NoText):
                read(thing)

    def test_trees_made_by_chance(self):
        for seed in range(400):
            program = Maker(seed).program()
            text = Writer(seed).program(program)
            self.assertEqual(repr(read(text)), repr(program), text)

    def test_equal_calls_give_equal_answers(self):
        text = Writer(1).program(Maker(7).program())
        self.assertEqual(read(text), read(text))

    def test_only_tuples_strings_integers_none(self):
        waiting = [read("class A { x; m(a) { say 1; } } fun f() { try { } catch x { a.b(\"t\", [2]); } }")]
        while waiting:
            thing = waiting.pop()
            self.assertIn(type(thing), (tuple, str, int, type(None)))
            waiting.extend(thing if isinstance(thing, tuple) else [])

    def test_the_document_s_example(self):
        self.assertEqual(read("say -2;"), (("say", ("minus", ("number", 2))),))


class Gaps(unittest.TestCase):
    def test_gaps_between_words_change_nothing(self):
        chance = random.Random(3)
        for seed in range(50):
            program = Maker(seed).program()
            self.assertEqual(read(Writer(chance.random()).program(program)), read(Writer(chance.random()).program(program)))


if __name__ == "__main__":
    unittest.main()
