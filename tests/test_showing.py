"""[1.4] show(program); THE FACT OF TEXTS."""

import unittest

from tests.drawn_programs import drawn
from tests.sample_trees import ODD, Maker, changed
from tests.told import NO_STRINGS, nested, nested_dict, nested_list, told
from unseenheap.errors import NoProgram
from unseenheap.reading import read
from unseenheap.showing import show
from unseenheap.trees import is_program

A, B, C = ("name", "a"), ("name", "b"), ("name", "c")
LEVELS = {"or": 1, "and": 2, "==": 4, "!=": 4, "<": 4, "<=": 4, ">": 4, ">=": 4, "+": 5, "-": 5, "*": 6, "/": 6, "mod": 6}


def lines(*rows):
    return "".join(row + "\n" for row in rows)


def e(text):
    """The expression that a text is."""
    return read("say " + text + ";")[0][1]


def shown(node):
    """The text of an expression."""
    text = show((("say", node),))
    assert text.startswith("say ") and text.endswith(";\n")
    return text[4:-2]


class Lines(unittest.TestCase):
    def test_an_empty_program_is_the_empty_text(self):
        self.assertEqual(show(()), "")

    def test_statements(self):
        for text in (
            "var a = b;", "a;", "a = b;", "a.b = c;", "a[b] = c;", "break;", "continue;", "return a;", "throw a;", "say a;",
            "a.b[c].d = -a;", "a[b][c] = not a;", "a(b)[c] = b;",
        ):
            self.assertEqual(show(read(text)), text + "\n")

    def test_each_statement_begins_a_line_of_its_own(self):
        self.assertEqual(show(read("a;b; say c;var d=1;")), lines("a;", "b;", "say c;", "var d = 1;"))

    def test_if(self):
        self.assertEqual(show(read("if a {}")), lines("if a {", "}"))
        self.assertEqual(show(read("if a {} else {}")), lines("if a {", "}"))
        self.assertEqual(show(read("if a {b;c;}")), lines("if a {", "  b;", "  c;", "}"))
        self.assertEqual(show(read("if a {b;} else {c;}")), lines("if a {", "  b;", "} else {", "  c;", "}"))
        self.assertEqual(show(read("if a {} else {c;}")), lines("if a {", "} else {", "  c;", "}"))

    def test_while_and_try(self):
        self.assertEqual(show(read("while a {}")), lines("while a {", "}"))
        self.assertEqual(show(read("while a {break;}")), lines("while a {", "  break;", "}"))
        self.assertEqual(show(read("try {} catch e {}")), lines("try {", "} catch e {", "}"))
        self.assertEqual(show(read("try {a;} catch e {b;}")), lines("try {", "  a;", "} catch e {", "  b;", "}"))

    def test_blocks_within_blocks(self):
        self.assertEqual(
            show(read("while a { if b { try { c; } catch e { d; } } else { f; } } g;")),
            lines(
                "while a {", "  if b {", "    try {", "      c;", "    } catch e {", "      d;", "    }", "  } else {", "    f;",
                "  }", "}", "g;",
            ),
        )

    def test_functions(self):
        self.assertEqual(show(read("fun f(){}")), lines("fun f() {", "}"))
        self.assertEqual(show(read("fun f(a,b){return a;}")), lines("fun f(a, b) {", "  return a;", "}"))
        self.assertEqual(show(read("fun f(a){}fun g(){}")), lines("fun f(a) {", "}", "fun g() {", "}"))

    def test_classes(self):
        self.assertEqual(show(read("class A{}")), lines("class A {", "}"))
        self.assertEqual(show(read("class A of B{}")), lines("class A of B {", "}"))
        self.assertEqual(show(read("class A{x;y;}")), lines("class A {", "  x;", "  y;", "}"))
        self.assertEqual(show(read("class A{m(){}}")), lines("class A {", "  m() {", "  }", "}"))
        self.assertEqual(
            show(read("class A of B{x;m(a,b){say a;if b{c;}}n(){}}")),
            lines("class A of B {", "  x;", "  m(a, b) {", "    say a;", "    if b {", "      c;", "    }", "  }", "  n() {", "  }", "}"),
        )

    def test_a_fun_amid_an_expression(self):
        self.assertEqual(shown(e("fun(){}")), "fun() {\n}")
        self.assertEqual(shown(e("fun(a,b){c;}")), "fun(a, b) {\n  c;\n}")
        self.assertEqual(shown(e("f(fun(a){a;},1,fun(){b;}) + 2")), "f(fun(a) {\n  a;\n}, 1, fun() {\n  b;\n}) + 2")
        self.assertEqual(shown(e("fun(){a;}(1).x[2]")), "fun() {\n  a;\n}(1).x[2]")
        self.assertEqual(shown(e("[fun(){}, fun(){}]")), "[fun() {\n}, fun() {\n}]")

    def test_a_fun_within_blocks(self):
        self.assertEqual(
            show(read("class A{m(){while a{b=fun(){if c{return fun(){d;};}};}}}")),
            lines(
                "class A {", "  m() {", "    while a {", "      b = fun() {", "        if c {", "          return fun() {",
                "            d;", "          };", "        }", "      };", "    }", "  }", "}",
            ),
        )
        self.assertEqual(
            show(read("if fun(){a;}(){b;}else{c;}")), lines("if fun() {", "  a;", "}() {", "  b;", "} else {", "  c;", "}"),
        )
        self.assertEqual(show(read("while fun(){a;}{b;}")), lines("while fun() {", "  a;", "} {", "  b;", "}"))
        self.assertEqual(show(read("fun(){a;};")), lines("fun() {", "  a;", "};"))
        self.assertEqual(show(read("fun(){a;}.b=fun(){c;};")), lines("fun() {", "  a;", "}.b = fun() {", "  c;", "};"))


class Expressions(unittest.TestCase):
    def test_those_without_others(self):
        for text in ("0", "7", "576460752303423487", "a", "true", "false", "nil", "this", "yield()", "[]", '""', '"a b"'):
            self.assertEqual(shown(e(text)), text)

    def test_texts_with_quotes(self):
        self.assertEqual(shown(("text", '"')), '""""')
        self.assertEqual(shown(("text", 'a"b""c')), '"a""b""""c"')
        self.assertEqual(shown(("text", "# no note; { ' \\")), "\"# no note; { ' \\\"")

    def test_those_with_others(self):
        for text in (
            "[a]", "[a, b, c]", "a()", "a(b)", "a(b, c)", "a.b(c, d)", "a.b", "a[b]", "super.m()", "super.m(a, b)", "new A()",
            "new A(a, b)", "len(a)", "weak(a)", "worth(a)", "number(a)", "spawn(a)", "join(a)", "-a", "not a", "a or b",
            "a mod b", "a()()", "new A()(a)", "super.m()(a)", "yield()(a)", "[a](b)", '"a".b', "1.x", "nil[a]", "len(a).b",
        ):
            self.assertEqual(shown(e(text)), text)

    def test_a_field_as_the_head_of_a_call(self):
        self.assertEqual(shown(("call", ("field", A, "b"), (C,))), "(a.b)(c)")
        self.assertEqual(shown(("call", ("call", ("field", A, "b"), ()), ())), "(a.b)()()")
        self.assertEqual(shown(("field", ("call", ("field", A, "b"), ()), "c")), "(a.b)().c")
        self.assertEqual(shown(("send", ("field", A, "b"), "c", ())), "a.b.c()")
        self.assertEqual(shown(("item", ("field", A, "b"), C)), "a.b[c]")
        self.assertEqual(shown(("call", ("item", ("field", A, "b"), C), ())), "a.b[c]()")

    def test_each_word_within_each_other_one(self):
        for outer, level in LEVELS.items():
            for inner, less in LEVELS.items():
                node = (outer, (inner, A, B), C)
                bare = less > level or less == level and level != 4
                wanted = f"a {inner} b {outer} c" if bare else f"(a {inner} b) {outer} c"
                self.assertEqual(shown(node), wanted)
                node = (outer, A, (inner, B, C))
                wanted = f"a {outer} b {inner} c" if less > level else f"a {outer} (b {inner} c)"
                self.assertEqual(shown(node), wanted)

    def test_not(self):
        for text in ("not not a", "not a == b", "not -a", "not a()", "(not a) == b", "a == (not b)", "not a and b", "not (a and b)",
                     "not (a or b)", "a and not b", "a + (not b)", "-(not a)", "(not a)()", "not a < b and not b < a",
                     "(not a).b", "(not a)[b]", "[not a]", "a[not b]", "a * (not b)", "(not a) * b", "not a or not b"):
            self.assertEqual(shown(e(text)), text)

    def test_minus(self):
        for text in ("--a", "-a()", "-a.b", "-a[b]", "-a.b()", "(-a)()", "(-a).b", "(-a)[b]", "(-a).b()", "-(a + b)", "-(a * b)",
                     "-a * b", "a - -b", "a * -b", "-a + -b", "-(a == b)", "-(a or b)", "-1", "a[-b]", "-(-a).b"):
            self.assertEqual(shown(e(text)), text)

    def test_heads_of_what_stands_behind(self):
        for inner in ("a + b", "a * b", "a == b", "a or b", "a and b", "not a", "-a"):
            for behind in ("()", ".x", "[c]", ".m(c)"):
                self.assertEqual(shown(e(f"({inner}){behind}")), f"({inner}){behind}")
                self.assertEqual(shown(e(f"({inner}){behind}.y")), f"({inner}){behind}.y")

    def test_no_parentheses_where_none_are_wanted(self):
        for text in ("a(b or c, d == e)", "a[b or c]", "[a or b]", "len(a or b)", "new A(a or b)", "super.m(a or b)", "a.m(a or b)"):
            self.assertEqual(shown(e(text)), text)
        self.assertEqual(show(read("if (a or b) { } while (a) { } return (a); a[(b)] = (c or d);")),
                         lines("if a or b {", "}", "while a {", "}", "return a;", "a[b] = c or d;"))


class Facts(unittest.TestCase):
    def test_read_of_show_is_the_program(self):
        for seed in range(1500):
            program = Maker(seed).program(7)
            self.assertEqual(read(show(program)), program)
        for seed in range(300):
            program = drawn(seed)
            self.assertEqual(read(show(program)), program)

    def test_a_changed_tree_is_shown_as_what_it_is(self):
        for seed in range(1500):
            thing = changed(Maker(seed).program(), seed)
            if is_program(thing):
                self.assertEqual(read(show(thing)), thing)
            else:
                with self.assertRaises(NoProgram):
                    show(thing)

    def test_lines_end_without_blanks_and_begin_with_two_for_each_block(self):
        for seed in range(300):
            text = show(Maker(seed).program(6))
            self.assertTrue(text == "" or text.endswith("\n"))
            open_blocks = 0
            for line in text.split("\n")[:-1]:
                bare = line.strip()
                self.assertEqual(line, line.rstrip())
                self.assertEqual(len(line) - len(line.lstrip()), 2 * (open_blocks - bare.startswith("}")), text)
                open_blocks += line.endswith("{") - bare.startswith("}")

    def test_deep_programs(self):
        for maker in (
            lambda node: ("not", node), lambda node: ("minus", node), lambda node: ("call", node, (A,)),
            lambda node: ("call", ("field", node, "x"), ()), lambda node: ("list", (A, node)), lambda node: ("-", A, node),
            lambda node: ("item", A, node), lambda node: ("fun", (), (("say", node),)), lambda node: ("send", A, "m", (node,)),
            lambda node: ("new", "A", (node,)), lambda node: ("or", node, ("and", A, B)),
        ):
            node, program = A, (("class", "A", None, (), (("m", (), (("say", A),)),)),)
            while is_program((("class", "A", None, (), (("m", (), (("say", maker(node)),)),)),)):
                node = maker(node)
                program = (("class", "A", None, (), (("m", (), (("say", node),)),)),)
            self.assertEqual(read(show(program)), program)
        block = (("break",),)
        for _ in range(49):
            block = (("while", A, block),)
        self.assertEqual(read(show(block)), block)
        self.assertEqual(show(block).count("\n"), 99)
        with self.assertRaises(NoProgram):
            show((("while", A, block),))

    def test_what_is_no_program(self):
        for thing in [*[odd for odd in NO_STRINGS if odd != ()], *[odd for odd in ODD if odd not in ((), (("break",),))],
                      "say 1;", nested(250), nested_list(250), nested_dict(250),
                      [("break",)], (["break"],), (("say", ("number", True)),), (("say", ("name", "if")),)]:
            self.assertEqual(told(show, thing), ("NoProgram",), repr(thing)[:80])


if __name__ == "__main__":
    unittest.main()
