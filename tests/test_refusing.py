"""[1.2], [1.3] which line read refuses: that of the first word with which no program goes on."""

import unittest

from tests.grammar import cases, first_refused, written
from tests.told import told
from unseenheap.reading import read


def refused(text):
    """The number of the word, from 1 on, that read refuses in a text without line feeds."""
    kind, line = told(read, text.replace(" ", "\n"))
    assert kind == "BadText"
    return line


class Words(unittest.TestCase):
    def test_the_first_word_with_which_no_program_goes_on(self):
        for text, at in (
            (") a", 1), ("} a", 1), ("; a", 1), ("= a", 1), ("of a", 1), ("else { }", 1), ("catch a { }", 1),
            ("mod a", 1), ("and a", 1), ("or a", 1), ("{ }", 1), (", a", 1), (". a", 1), ("* a", 1), ("== a", 1),
            ("a b", 2), ("a 1 ;", 2), ('a "b"', 2), ("1 2", 2), ("a )", 2), ("a ]", 2), ("a }", 2), ("a {", 2),
            ("a , b", 2), ("say ;", 2), ("say )", 2), ("return ;", 2), ("throw ;", 2), ("break a", 2),
            ("continue a", 2), ("break }", 2), ("var 1", 2), ("var if", 2), ("var a ;", 3), ("var a == b", 3),
            ("var a = ;", 4), ("var a = b c", 5), ("var a = b = c", 5), ("var a , b", 3), ("var ( a", 2),
            ("if { }", 2), ("if a b", 3), ("if a ; b", 3), ("if a { } else if a", 6), ("if a { } else ;", 6),
            ("if a { } else { } else", 8), ("while { }", 2), ("while a ; b", 3), ("if a = b", 3), ("if a { } ;", 5),
            ("try a", 2), ("try { } a", 4), ("try { } catch {", 5), ("try { } catch 1", 5), ("try { } catch a b", 6),
            ("try { } catch ( a", 5), ("say a = b", 3), ("return a b", 3),
            ("class 1", 2), ("class a ;", 3), ("class a of {", 4), ("class a of b ;", 5), ("class a ( b", 3),
            ("class a { 1", 4), ("class a { fun", 4), ("class a { ; }", 4), ("class a { b }", 5), ("class a { b , c", 5),
            ("class a { b = 1", 5), ("class a { b ( ) ;", 7), ("class a { b ( 1", 6), ("class a { var b", 4),
            ("class a { b ( ) { } c ;", 10), ("class a { b ( ) { } ;", 9), ("class a { } ;", 5), ("class a { b ; 1", 6),
            ("class a { class b", 4), ("class of", 2), ("class a of of", 4), ("class a { this ;", 4),
            ("fun a b", 3), ("fun a { }", 3), ("fun a ( b c", 5), ("fun a ( , b", 4), ("fun a ( b , )", 6),
            ("fun a ( 1 )", 4), ("fun a ( ) ;", 5), ("fun a ( ) { } ;", 7), ("fun a ( b . c", 5), ("fun 1", 2),
            ("fun ;", 2), ("fun ( ) { } a", 6), ("fun ( ) { } fun", 6), ("fun ( b + c", 4), ("fun ( ) a", 4),
            ("fun if", 2), ("fun {", 2), ("fun a ( ( b", 4),
        ):
            self.assertEqual(refused(text), at, text)

    def test_expressions(self):
        for text, at in (
            ("say a + ;", 4), ("say + a", 2), ("say * a", 2), ("say a * / b", 4), ("say ( ) ;", 3), ("say ( a ;", 4),
            ("say ( a , b )", 4), ("say [ , a ]", 3), ("say [ a , ]", 5), ("say [ a ; ]", 4), ("say [ a )", 4),
            ("say ( a ]", 4), ("say a ( , b )", 4), ("say a ( b , )", 6), ("say a ( b c", 5), ("say a [ ]", 4),
            ("say a [ b , c", 5), ("say a . 1", 4), ("say a . if", 4), ("say a . number", 4), ("say a . ( b", 4),
            ("say . a", 2), ("say super a", 3), ("say super ;", 3), ("say super ( )", 3), ("say super . 1", 4),
            ("say super . a ;", 5), ("say super . a . b", 5), ("say super [ a", 3), ("say new 1", 3), ("say new ( a", 3),
            ("say new a ;", 4), ("say new a . b", 4), ("say new a [ b", 4), ("say new new", 3), ("say len a", 3),
            ("say len ( )", 4), ("say len ( a , b", 5), ("say number ;", 3), ("say weak ( a b", 5), ("say join . a", 3),
            ("say yield ;", 3), ("say yield ( a", 4), ("say fun a ( ) { }", 3), ("say ( fun a ( )", 4),
            ("{ fun a ( )", 1), ("if a { fun b ( ) { }", 5), ("fun a ( ) { fun b", 7), ("while a { class b", 4),
            ("if a { class", 4), ("fun a ( ) { class", 6), ("class a { b ( ) { fun c", 9), ("fun ( ) { fun c", 6),
            ("say true false", 3), ("say this . this", 4), ("say nil nil", 3), ("say not", 2), ("say not ;", 3),
            ("say not not )", 4), ("say - ;", 3), ("say - not a", 3), ("say a + not b", 4), ("say a == not b", 4),
            ("say - - not a", 4), ("say not a + not b", 5), ("say a not b", 3), ("say a or or b", 4),
            ("say a and or", 4), ("say a mod ;", 4), ("say class", 2), ("say of", 2), ("say { }", 2), ("say else", 2),
        ):
            self.assertEqual(refused(text), at, text)

    def test_comparisons_in_a_row(self):
        for one in ("==", "!=", "<", "<=", ">", ">="):
            for other in ("==", "!=", "<", "<=", ">", ">="):
                self.assertEqual(refused(f"say a {one} b {other} c ;"), 5)
                self.assertEqual(refused(f"say a {one} b + c * - d {other} c ;"), 10)
                self.assertEqual(refused(f"say not a {one} b {other} c ;"), 6)
                self.assertEqual(refused(f"say a or b {one} b {other} c ;"), 7)
                self.assertEqual(refused(f"say a ( b {one} b {other} c ) ;"), 7)
                self.assertEqual(read(f"say (a {one} b) {other} c;"), (("say", (other, (one, ("name", "a"), ("name", "b")), ("name", "c"))),))
                self.assertEqual(read(f"say a {one} (b {other} c);"), (("say", (one, ("name", "a"), (other, ("name", "b"), ("name", "c")))),))
                self.assertEqual(read(f"say a {one} b and b {other} c;")[0][1][0], "and")

    def test_what_is_no_place(self):
        for text, at in (
            ("1 = a ;", 2), ('"a" = b ;', 2), ("this = a ;", 2), ("nil = a ;", 2), ("a ( ) = b ;", 4),
            ("a . b ( ) = c ;", 6), ("( a + b ) = c ;", 6), ("a + b = c ;", 4), ("- a = b ;", 3), ("not a = b ;", 3),
            ("[ a ] = b ;", 4), ("new a ( ) = b ;", 5), ("len ( a ) = b ;", 5), ("yield ( ) = a ;", 4),
            ("super . a ( ) = b ;", 6), ("a == b = c ;", 4), ("a or b = c ;", 4), ("a = b = c ;", 4),
            ("( a = b ) ;", 3), ("( a ( ) ) = b ;", 6), ("fun ( ) { } = a ;", 6), ("a + b . c = d ;", 6),
            ("- a . b = c ;", 5), ("a . b = c = d ;", 6), ("( - a . b ) = c ;", 7), ("say a = b ;", 3),
        ):
            self.assertEqual(refused(text), at, text)

    def test_words_on_several_lines(self):
        self.assertEqual(told(read, "say a\n\n# note\n b;"), ("BadText", 4))
        self.assertEqual(told(read, "say a; say\n;\nsay 1;"), ("BadText", 2))
        self.assertEqual(told(read, "a b\nsay;"), ("BadText", 1))


class Lacking(unittest.TestCase):
    def test_one_more_than_the_line_feeds(self):
        for text in (
            "say", "say a", "a", "a.", "a(", "a(b", "a(b,", "a[", "a[b", "[", "[a", "[a,", "(", "(a", "-", "not", "a +",
            "a <", "a or", "a = ", "a = b", "var", "var a", "var a =", "var a = b", "if", "if a", "if a {", "if a { b;",
            "if a { } else", "if a { } else {", "while", "while a", "while a {", "break", "continue", "return",
            "return a", "throw", "throw a", "try", "try {", "try { }", "try { } catch", "try { } catch a",
            "try { } catch a {", "class", "class a", "class a of", "class a of b", "class a {", "class a { b",
            "class a { b;", "class a { b(", "class a { b(c", "class a { b(c,", "class a { b()", "class a { b() {",
            "class a { b() { }", "fun", "fun f", "fun f(", "fun f(a", "fun f(a,", "fun f()", "fun f() {", "fun (",
            "fun ()", "fun () {", "fun () { }", "super", "super.", "super.a", "super.a(", "super.a()", "new", "new a",
            "new a(", "new a()", "len", "len(", "len(a", "len(a)", "yield", "yield(", "yield()", "this", '"a"', "1",
        ):
            self.assertEqual(told(read, text), ("BadText", 1), text)
            for end, more in (("\n", 1), ("\n\n# note\n", 3), (" # note", 0), ("\n# note", 1), ("\n\n  \n", 3)):
                self.assertEqual(told(read, text + end), ("BadText", 1 + more), text + end)
                self.assertEqual(told(read, "a;\n\n" + text + end), ("BadText", 3 + more), text + end)


class Open(unittest.TestCase):
    def test_60_and_61_brackets(self):
        for opening, closing in (("(", ")"), ("-(", ")"), ("f(", ")"), ("a.b(", ")"), ("a[", "]"), ("[", "]")):
            text = "say " + opening * 60 + "a" + closing * 60 + ";"
            wanted = (("say", ("name", "a")),) if opening == "(" else ("TooDeep",)
            self.assertEqual(told(read, text), wanted)
            text = "say " + opening * 60 + "\n" + opening + "a" + closing * 61 + ";"
            self.assertEqual(told(read, text), ("BadText", 2))

    def test_each_kind_of_61st(self):
        for first in ("(", "[", "f(", "a[", "len(", "[a, "):
            for last in ("(", "[", "f(", "a[", "fun() {", "new a(", "super.a(", "a.b("):
                text = "say " + first * 60
                self.assertEqual(told(read, text + "\n"), ("BadText", 2))
                self.assertEqual(told(read, text + "\n\n" + last), ("BadText", 3), text + last)

    def test_curly_ones(self):
        for head in ("if a {", "while a {", "try {", "try { } catch a {", "fun () {", "say fun() {", "if a { } else {"):
            self.assertEqual(told(read, head * 59 + head + "\n\n"), ("BadText", 3), head)
            self.assertEqual(told(read, head * 60 + "\n)"), ("BadText", 2), head)
            self.assertEqual(told(read, head * 60 + "\n" + head + "\n\n"), ("BadText", 2), head)
        self.assertEqual(told(read, "class A { m() {" + "if a {" * 58 + "\nif b {\n\n"), ("BadText", 2))
        self.assertEqual(told(read, "class A { m() {" + "if a {" * 58 + "\nif b\n\n"), ("BadText", 4))
        self.assertEqual(told(read, "fun f() {" + "if a {" * 59 + "\nif b {\n\n"), ("BadText", 2))
        self.assertEqual(told(read, "if a {" * 60 + "}" * 60), ("TooDeep",))

    def test_each_closing_one_closes_one(self):
        for opening, closing in (("(a", ")"), ("[", "]"), ("fun() {", "}"), ("f(", ")"), ("a[0", "]")):
            text = "[" * 59 + opening + closing + "\n,[\n"
            self.assertEqual(told(read, text), ("BadText", 3), text)
            self.assertEqual(told(read, text + "[\n"), ("BadText", 3), text)
            self.assertEqual(told(read, text + "[\n\n"), ("BadText", 3), text)

    def test_what_is_closed_does_not_count(self):
        self.assertEqual(len(read("a();" * 100)), 100)
        self.assertEqual(len(read("if a { [b]; }" * 100)), 100)
        text = "say " + "[" * 40 + "[[]], (a), f()" + "]" * 40 + ";"
        self.assertEqual(len(read(text)), 1)

    def test_mixed_and_in_params(self):
        self.assertEqual(told(read, "([" * 30 + "\nfun\n("), ("BadText", 3))
        self.assertEqual(told(read, "([" * 30 + "\nfun\na"), ("BadText", 3))
        self.assertEqual(told(read, "([" * 29 + "(" + "a" + ")" + "])" * 29 + ";")[0][0], "do")

    def test_a_61st_one_and_another_fault(self):
        self.assertEqual(told(read, "say a\nb\n" + "(" * 61), ("BadText", 2))
        self.assertEqual(told(read, "say " + "(" * 60 + "\n(\n;\n"), ("BadText", 2))
        self.assertEqual(told(read, "say " + "(" * 60 + "\n;\n(\n"), ("BadText", 2))
        self.assertEqual(told(read, "say " + "(" * 60 + "a\n(\n;\n"), ("BadText", 2))
        self.assertEqual(told(read, "say " + "(" * 61 + "\n!"), ("BadText", 2))


class Order(unittest.TestCase):
    def test_faults_of_words_come_first(self):
        self.assertEqual(told(read, "say;\n\na b\n\n01"), ("BadText", 5))
        self.assertEqual(told(read, "say\n" + "a" * 21), ("BadText", 2))
        self.assertEqual(told(read, ")\n" * 100 + "!"), ("BadText", 101))
        self.assertEqual(told(read, "say " + "-" * 100 + "a;\n\"a"), ("BadText", 2))

    def test_too_deep_comes_last(self):
        deep = "say " + "-" * 60 + "a;"
        self.assertEqual(told(read, deep), ("TooDeep",))
        self.assertEqual(told(read, deep + "\nsay"), ("BadText", 2))
        self.assertEqual(told(read, deep + "\n)"), ("BadText", 2))
        self.assertEqual(told(read, "say\n" + "-" * 20000 + ";"), ("BadText", 2))
        self.assertEqual(told(read, "a" + ".b" * 8000 + "\n.1;"), ("BadText", 2))


class Chance(unittest.TestCase):
    def test_words_by_chance(self):
        """The word refused is the one behind which a plain recogniser of the grammar finds no way on."""
        whole = 0
        for words in cases(2, 1200):
            place = first_refused(words)
            answer = told(read, written(words))
            if place is None:
                whole += 1
                self.assertNotEqual(answer[:1], ("BadText",), words)
            else:
                self.assertEqual(answer, ("BadText", max(1, min(place + 1, len(words)))), words)
        self.assertGreater(whole, 200)


if __name__ == "__main__":
    unittest.main()
