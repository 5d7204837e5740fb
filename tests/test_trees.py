"""[1.3] is_program(thing), depth(program); [0.2], [0.3] what is judged."""

import unittest

from tests.sample_trees import Maker, Writer, changed, places, put
from tests.told import NO_STRINGS, nested, nested_dict, nested_list, told
from unseenheap.errors import HeapError, NoProgram
from unseenheap.reading import read
from unseenheap.trees import depth, is_program

A = ("name", "a")
NIL = ("nil",)
BARRED = chr(37)


def is_e(thing):
    return is_program((("say", thing),))


def deep(many):
    """An expression of this depth."""
    found = NIL
    for _ in range(many - 1):
        found = ("not", found)
    return found


class Programs(unittest.TestCase):
    def test_trees_as_read_tells_them(self):
        for text in (
            "", "class A of B { x; y; m(a) { return this.x; } }", "class A { }", "fun f(a, b) { throw a; }",
            "var a = 1; a; a = 2; a.b = 3; a[b] = 4; (a) = 5;", "if a { b; } if a { } else { c; }",
            "while a { break; continue; }", "break; continue; return 1; say super.m(); this;",
            "try { a; } catch b { c; }", "say [1, \"a\"\"b\", nil, true, false, this];",
            "say fun(a) { a; }(super.m(1), new A(2), (a.b)(3), a.b(4))[5];",
            "say len(a) + weak(a) - worth(a) * number(a) / spawn(a) mod join(a) or yield() and not -a < b;",
        ):
            self.assertIs(is_program(read(text)), True, text)

    def test_trees_made_by_chance(self):
        for seed in range(300):
            program = Maker(seed).program(6)
            self.assertIs(is_program(program), True, program)

    def test_each_part_exchanged(self):
        """A changed tree is a program just if the text that it would have is read as this very tree."""
        programs = 0
        for seed in range(3000):
            thing = changed(Maker(seed).program(), seed)
            try:
                wanted = repr(read(Writer(seed).program(thing))) == repr(thing)
            except (HeapError, TypeError, IndexError, ValueError, KeyError, AttributeError):
                wanted = False
            self.assertIs(is_program(thing), wanted, thing)
            programs += wanted
        self.assertGreater(programs, 200)
        self.assertLess(programs, 2000)

    def test_lists_for_tuples(self):
        program = read("class A of B { x; m(a) { say [b]; } } fun f(a) { if a { b; } else { c.d(e); } } a[b] = fun(c) { };")
        for way in places(program):
            part = program
            for at in way:
                part = part[at]
            if isinstance(part, tuple):
                self.assertIs(is_program(put(program, way, list)), False, way)

    def test_tuples_too_short_or_too_long(self):
        program = read("class A of B { m(a) { say [b]; } } fun f(a) { try { b; } catch c { d = e; } } break; say len(a);")
        for way in places(program):
            part = program
            for at in way:
                part = part[at]
            if isinstance(part, tuple) and part and isinstance(part[0], str) and len(part) > 0 and part != ("a",):
                self.assertIs(is_program(put(program, way, lambda part: (*part, ()))), False, part)
                self.assertIs(is_program(put(program, way, lambda part: part[:-1])), False, part)

    def test_names(self):
        for name in ("a", "_", "x" * 20, "A9_", "classs", "NAME"):
            self.assertTrue(is_e(("name", name)))
            self.assertTrue(is_program((("var", name, NIL),)))
            self.assertTrue(is_program((("class", name, name, (name,), ((name, (name,), ()),)),)))
        for name in ("", "x" * 21, "1a", "if", "number", "a b", " a", "a\n", "\u00e9", "a\u0661", "a-", None, 1, b"a",
                     ["a"], ("a",), True):
            for tree in (
                ("say", ("name", name)), ("var", name, NIL), ("try", (), name, ()), ("function", name, (), ()),
                ("function", "f", (name,), ()), ("class", name, None, (), ()), ("class", "A", None, (name,), ()),
                ("class", "A", None, (), ((name, (), ()),)), ("class", "A", None, (), (("m", (name,), ()),)),
                ("say", ("fun", (name,), ())), ("say", ("send", A, name, ())), ("say", ("up", name, ())),
                ("say", ("new", name, ())), ("say", ("field", A, name)), ("set", ("name", name), NIL),
                ("set", ("field", A, name), NIL),
            ):
                self.assertIs(is_program((tree,)), False, tree)
            self.assertIs(is_program((("class", "A", name, (), ()),)), name is None)

    def test_numbers(self):
        for number in (0, 1, 2 ** 59 - 1):
            self.assertTrue(is_e(("number", number)))
        for number in (-1, 2 ** 59, 10 ** 39, -10 ** 39, True, False, None, "1", (1,), [1], b"1"):
            self.assertIs(is_e(("number", number)), False, number)

    def test_texts(self):
        for text in ("", "a", '"', '""', "# ' \\ {", "".join(chr(n) for n in range(32, 127) if n != 37), "a" * 20000):
            self.assertTrue(is_e(("text", text)))
        for text in (BARRED, "a\n", "\t", "\x00", "\x7f", "\u00e9", "\r", None, 1, b"a", ("a",), ["a"]):
            self.assertIs(is_e(("text", text)), False, text)

    def test_statements_where_they_may_stand(self):
        for statement in (("break",), ("continue",), ("return", A), ("throw", A), ("say", ("this",)),
                          ("do", ("up", "m", ())), ("var", "a", A)):
            for program in (
                (statement,), (("function", "f", (), (statement,)),), (("if", A, (statement,), (statement,)),),
                (("class", "A", None, (), (("m", (), (statement,)),)),), (("do", ("fun", (), (statement,))),),
                (("try", (statement,), "a", (statement,)),), (("while", A, (statement,)),),
            ):
                self.assertIs(is_program(program), True, program)
            for program in (
                statement, ((statement,),), (("say", statement),), (("if", statement, (), ()),), (("while", A, statement),),
                (("if", A, (), statement),), (("do", ("list", (statement,))),), (("set", statement, A),),
            ):
                self.assertIs(is_program(program), False, program)

    def test_items_stand_at_the_top_alone(self):
        for item in (("class", "A", None, (), ()), ("function", "f", (), ())):
            self.assertTrue(is_program((item,)))
            for program in (
                (("if", A, (item,), ()),), (("function", "g", (), (item,)),), (("do", ("fun", (), (item,))),),
                (("class", "B", None, (), (("m", (), (item,)),)),), (("class", "B", None, (), (item,)),), ((item,),),
                item, (("say", item),),
            ):
                self.assertIs(is_program(program), False, program)

    def test_expressions_are_no_statements(self):
        for e in (A, NIL, ("number", 1), ("call", A, ()), ("fun", (), ()), ("ask", "yield", ())):
            self.assertTrue(is_e(e))
            self.assertIs(is_program((e,)), False)
            self.assertIs(is_program(e), False)

    def test_places(self):
        for place in (A, ("field", A, "b"), ("item", A, A), ("field", ("call", A, ()), "b")):
            self.assertTrue(is_program((("set", place, A),)))
        for place in (NIL, ("this",), ("call", A, ()), ("send", A, "b", ()), ("number", 1), ("list", ()), ("+", A, A), "a",
                      ("text", "a"), ("up", "a", ()), (), ("name",), ("field", A), ("item", A), ("name", "a", "b")):
            self.assertIs(is_program((("set", place, A),)), False, place)

    def test_what_is_asked(self):
        for key in ("len", "weak", "worth", "number", "spawn", "join"):
            self.assertTrue(is_e(("ask", key, (A,))))
            self.assertIs(is_e(("ask", key, ())), False)
            self.assertIs(is_e(("ask", key, (A, A))), False)
            self.assertIs(is_e(("ask", key, A)), False)
        self.assertTrue(is_e(("ask", "yield", ())))
        self.assertIs(is_e(("ask", "yield", (A,))), False)
        self.assertIs(is_e(("ask", "yield", [])), False)
        for key in ("mod", "not", "", "a", None, 1, ("len",), ["len"], b"len", True, "say"):
            self.assertIs(is_e(("ask", key, (A,))), False)
            self.assertIs(is_e(("ask", key, ())), False)

    def test_words_at_the_head(self):
        for word in ("or", "and", "==", "!=", "<", "<=", ">", ">=", "+", "-", "*", "/", "mod"):
            self.assertTrue(is_e((word, A, A)))
            self.assertIs(is_e((word, A)), False)
            self.assertIs(is_e((word, A, A, A)), False)
        for word in ("=", "!", "<>", "xor", "Or", "", None, 1, True, ("or",), ["or"], b"or", ".", "super", "class", "program",
                     "e", "args", "block", "method", "methods", "names"):
            for parts in ((), (A,), (A, A), (A, ()), ((),)):
                self.assertIs(is_e((word, *parts)), False, word)
                self.assertIs(is_program(((word, *parts),)), False, word)

    def test_things_of_other_kinds(self):
        for thing in NO_STRINGS:
            if thing != ():
                self.assertIs(is_program(thing), False)
                self.assertIs(is_program((thing,)), False)
                self.assertIs(is_e(thing), False)
                self.assertIs(is_e(("list", (thing,))), False)
                self.assertIs(is_program((("if", A, (thing,), ()),)), False)
        for thing in ("", "a", "say 1;", ("a",), ((),), (((),),), HeapError(), HeapError):
            self.assertIs(is_program(thing), False)
        self.assertIs(is_program(()), True)

    def test_things_nested_deep(self):
        for inner in ((), A, ("say", A), [], "a"):
            for many in (50, 100, 240):
                self.assertIs(is_program(nested(many, inner)), False)
        for thing in (nested_list(240), nested_dict(240), deep(240)):
            self.assertIs(is_program(thing), False)
            self.assertIs(is_program((("say", thing),)), False)
        self.assertIs(is_e(deep(10000)), False)

    def test_51_deep(self):
        self.assertIs(is_e(deep(49)), True)
        self.assertIs(is_e(deep(50)), False)
        inner = ("break",)
        for _ in range(49):
            inner = ("if", NIL, (), (inner,))
        self.assertIs(is_program((inner,)), True)
        self.assertIs(is_program((NIL, inner)), False)
        self.assertIs(is_program((("break",), inner)), True)
        self.assertIs(is_program((("class", "A", None, (), (("m", (), (inner,)),)),)), True)
        more = ("while", NIL, (inner,))
        self.assertIs(is_program((more,)), False)
        self.assertIs(is_program((("function", "f", (), (more,)),)), False)
        self.assertIs(is_program((("class", "A", None, (), (("m", (), (more,)),)),)), False)


class Depths(unittest.TestCase):
    def test_depth_of_each_form(self):
        for text, deep_as in (
            ("", 0), ("class A of B { x; }", 0), ("fun f(a) { }", 0), ("class A { m() { } }", 0),
            ("break;", 1), ("continue;", 1), ("a;", 2), ("say a;", 2), ("return a;", 2), ("throw a;", 2),
            ("var a = b;", 2), ("var a = -b;", 3), ("a = b;", 2), ("a.b = c;", 3), ("a[b.c] = d;", 4), ("a = -b;", 3),
            ("if a { }", 2), ("if -a { }", 3), ("if a { b; }", 3), ("if a { } else { b; }", 3),
            ("if a { } else { b; -c; d; }", 4), ("while a { }", 2), ("while a { break; }", 2), ("while a { b; }", 3),
            ("while -a.b { }", 4), ("try { } catch a { }", 1), ("try { break; } catch a { }", 2),
            ("try { } catch a { b; }", 3), ("try { -b; } catch a { c; }", 4),
            ("say 1;", 2), ('say "a";', 2), ("say [];", 2), ("say [a];", 3), ("say [a, [b]];", 4), ("say fun() { };", 2),
            ("say fun(a) { break; };", 3), ("say fun() { a; };", 4), ("say a();", 3), ("say a(b.c);", 4),
            ("say a.b();", 3), ("say a.b(c, -d);", 4), ("say super.a();", 2), ("say super.a(b);", 3), ("say new A();", 2),
            ("say new A(b);", 3), ("say a.b;", 3), ("say a.b.c;", 4), ("say a[b];", 3), ("say a[-b];", 4),
            ("say a + b;", 3), ("say a + b + c;", 4), ("say a + (b + -c);", 5), ("say not a;", 3), ("say -a;", 3),
            ("say len(a);", 3), ("say yield();", 2), ("say ((a));", 2), ("say a or b and c;", 4), ("say this;", 2),
            ("fun f() { break; }", 1), ("fun f() { a; } b.c;", 3), ("class A { m() { a; } n() { -a; } } b;", 3),
            ("break; a; -a; a; break;", 3), ("class A { m() { } } fun f() { } break;", 1),
        ):
            self.assertEqual(repr(depth(read(text))), repr(deep_as), text)

    def test_each_place_within_counts(self):
        """Whichever of a form's inner parts is the deepest one tells its depth."""
        words = ("or", "and", "==", "!=", "<", "<=", ">", ">=", "+", "-", "*", "/", "mod")
        forms = [lambda x, y, word=word: (word, x, y) for word in words]
        forms += [
            lambda x, y: ("list", (x, y)), lambda x, y: ("call", x, (y,)), lambda x, y: ("call", NIL, (x, y)),
            lambda x, y: ("send", x, "m", (y,)), lambda x, y: ("send", NIL, "m", (x, y)), lambda x, y: ("up", "m", (x, y)),
            lambda x, y: ("new", "A", (x, y)), lambda x, y: ("item", x, y),
        ]
        for form in forms:
            for many in (1, 2, 10):
                self.assertEqual(depth((("say", form(deep(many), NIL)),)), many + 2)
                self.assertEqual(depth((("say", form(NIL, deep(many))),)), many + 2)
        forms = [
            lambda x, y: ("set", ("field", x, "a"), ("not", y)), lambda x, y: ("if", x, (("say", y),), ()),
            lambda x, y: ("if", x, (), (("say", y),)), lambda x, y: ("while", x, (("say", y),)),
            lambda x, y: ("try", (("say", x),), "a", (("say", y),)),
        ]
        for form in forms:
            for many in (3, 10):
                self.assertEqual(depth((form(NIL, deep(many)),)), many + 2)
                self.assertIn(depth((form(deep(many), NIL),)), (many + 1, many + 2))

    def test_the_deepest(self):
        self.assertEqual(depth((("say", deep(49)),)), 50)
        self.assertEqual(told(depth, (("say", deep(50)),)), ("NoProgram",))

    def test_no_program(self):
        for thing in [*NO_STRINGS, "a", "", (A,), (("say", A, A),), [("say", A)], (("break",), ()), deep(200)]:
            if thing != ():
                with self.assertRaises(NoProgram):
                    depth(thing)

    def test_nothing_is_changed(self):
        thing = [("say", A)]
        self.assertIs(is_program(thing), False)
        self.assertEqual(thing, [("say", A)])


if __name__ == "__main__":
    unittest.main()
