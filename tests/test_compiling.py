"""[6.1] compiled(program): texts, top names, classes, names and numbers of codes, and that the examiner lets it by.

What its rows do is compared with the plain run by a machine that the tests tell, here and in test_runs.
"""

import unittest

from tests.drawn_programs import drawn
from tests.machine_model import MachineModel
from tests.running import all_of
from tests.sample_trees import Maker
from tests.told import NO_STRINGS, nested, nested_dict, nested_list, told
from unseenheap.compiling import compiled
from unseenheap.examine import is_let, is_paper, refused, table
from unseenheap.names import name_faults, names
from unseenheap.plain import Plain
from unseenheap.reading import read
from unseenheap.units import Unit

SWEEPS = tuple((tick, deed) for tick in range(1, 300) for deed in ("sweep", "switch"))


def unit_of(text):
    return compiled(read(text))


def texts_of(program):
    """The texts of a program as they first stand in it, told by the order of its tuples."""
    found = []
    waiting = [program]
    while waiting:
        part = waiting.pop()
        if isinstance(part, tuple) and len(part) == 2 and part[0] == "text" and isinstance(part[1], str):
            if part[1] not in found:
                found.append(part[1])
        elif isinstance(part, tuple):
            waiting.extend(part[::-1])
    return tuple(found)


class Parts(unittest.TestCase):
    def check(self, program):
        unit = compiled(program)
        self.assertIsInstance(unit, Unit)
        found = names(program)
        self.assertEqual([code.name for code in unit.codes], [code[0] for code in found])
        self.assertEqual([(code.params, code.slots, code.keeps) for code in unit.codes],
                         [(many, len(slots), len(captured)) for _, many, slots, captured in found])
        self.assertEqual([name for name, _ in unit.tops], [item[1] for item in program if item[0] in ("function", "var")])
        self.assertEqual([unit.codes[code].name for _, code in unit.tops if code is not None],
                         [item[1] for item in program if item[0] == "function"])
        self.assertEqual([name for name, code in unit.tops if code is None], [item[1] for item in program if item[0] == "var"])
        classes = [item for item in program if item[0] == "class"]
        self.assertEqual([(name, None if elder is None else unit.classes[elder][0], fields) for name, elder, fields, _ in unit.classes],
                         [(name, elder, fields) for _, name, elder, fields, _ in classes])
        for (name, _, _, methods), item in zip(unit.classes, classes):
            self.assertEqual([method for method, _ in methods], sorted(method for method, _, _ in item[4]))
            self.assertEqual([unit.codes[code].name for _, code in methods], [f"{name}.{method}" for method, _ in methods])
        self.assertIs(refused(unit), None)
        self.assertIs(is_let(unit), True)
        return unit

    def test_drawn_programs(self):
        for seed in range(400):
            program = drawn(seed)
            self.assertEqual(self.check(program).texts, texts_of(program))

    def test_drawn_trees_without_faults(self):
        many = 0
        for seed in range(3000):
            program = Maker(seed).program(4)
            if not name_faults(program):
                self.check(program)
                many += 1
        self.assertGreater(many, 250)

    def test_the_empty_program(self):
        unit = self.check(())
        self.assertEqual((unit.texts, unit.tops, unit.classes, len(unit.codes)), ((), (), (), 1))

    def test_texts_as_they_first_stand(self):
        unit = unit_of('say ["b", fun() { return "a"; }, "b"]; class A { m() { return "c"; } } fun f() { "d"; "a"; } say "e"; say "";')
        self.assertEqual(unit.texts, ("b", "a", "c", "d", "e", ""))

    def test_top_names_in_their_order(self):
        unit = unit_of("var a = fun() { }; fun f() { fun() { }; } class A { m() { } n() { } } var b = 1; fun g() { } if true { var c = 1; }")
        self.assertEqual(unit.tops, (("a", None), ("f", 2), ("b", None), ("g", 6)))
        self.assertEqual([code.name for code in unit.codes], ["top", "fun", "f", "fun", "A.m", "A.n", "g"])

    def test_classes_in_their_order(self):
        unit = unit_of("class B { y; z() { } a() { } } class A of B { x; w; } class C of B { m(a, b) { } }")
        self.assertEqual(unit.classes, (
            ("B", None, ("y",), (("a", 2), ("z", 1))), ("A", 0, ("x", "w"), ()), ("C", 0, (), (("m", 3),)),
        ))
        self.assertEqual([code.params for code in unit.codes], [0, 1, 1, 3])

    def test_elders_are_told_by_their_numbers(self):
        unit = unit_of("class A { } class B { } class C of B { } class D of A { } class E of C { }")
        self.assertEqual([elder for _, elder, _, _ in unit.classes], [None, None, 1, 0, 2])

    def test_the_longest_names(self):
        name = "n" * 20
        self.assertEqual(unit_of(f"class {name} {{ {name}() {{ }} }}").codes[1].name, f"{name}.{name}")

    def test_errors(self):
        for odd in [*[odd for odd in NO_STRINGS if odd != ()], "say 1;", nested(250), nested_list(250), nested_dict(250), [("break",)]]:
            self.assertEqual(told(compiled, odd), ("NoProgram",), repr(odd)[:50])
        self.assertEqual(told(compiled, read("say 1; say x; break; class A of B { }")), ("BadNames", "unknown", "x"))
        self.assertEqual(told(compiled, read("break; say x;")), ("BadNames", "loop", "break"))

    def test_equal_programs_have_equal_units(self):
        for seed in range(50):
            self.assertTrue(compiled(drawn(seed)) == compiled(drawn(seed)))


class Rows(unittest.TestCase):
    """Each kind of statement and expression: the unit is let by, and runs as the plain run does at every tick."""

    def check(self, text, moments=()):
        program = read(text)
        unit = compiled(program)
        self.assertIs(refused(unit), None, text)
        for number, paper in enumerate(table(unit)):
            self.assertIs(is_paper(unit, number, paper), True)
        for deeds in ((), SWEEPS, *[moments]):
            plain, machine = Plain(program, deeds), MachineModel(unit, deeds)
            for most in (*range(40), 100, 500):
                plain.run(most)
                machine.run(most)
                self.assertEqual(machine.told(), all_of(plain), (text, most))
        return unit

    def test_each_code_begins_with_a_tick(self):
        for seed in range(100):
            for code in compiled(drawn(seed)).codes:
                self.assertEqual(code.rows[0], ("tick",))

    def test_values(self):
        for text in ("0", str(2 ** 59 - 1), '"a"', "true", "false", "nil", "[]", "[1, [2], nil]", "fun() { }", "f", "new A()", "new A(1)", "new B(1)",
                     "new B()", "yield()", "len([1])", "weak([])", "worth(weak([]))", "number([])", "spawn(f)", "join(spawn(f))", "f()", "f(1)",
                     "new A().m()", "new B(1).x", "[1][0]", '"a"[0]', "not nil", "-5", f"-(-{2 ** 59 - 1} - 1)", "1 and 2", "nil and 2", "1 or 2", "nil or 2"):
            self.check(f"fun f() {{ return 7; }} class A {{ }} class B {{ x; init(a) {{ this.x = a; }} }} try {{ say {text}; }} catch e {{ say e; }}")

    def test_words_between_two(self):
        for word in ("==", "!=", "<", "<=", ">", ">=", "+", "-", "*", "/", "mod", "and", "or"):
            for one, other in ((1, 2), (2, 1), (2, 2), (-7, 2), (7, 0), ('"a"', '"b"'), ('"b"', '"b"'), ("[1]", "[2]"), ("nil", 1), (1, "true")):
                self.check(f"fun f(a) {{ say a; return a; }} try {{ say f({one}) {word} f({other}); }} catch e {{ say e; }}")

    def test_what_is_set(self):
        self.check("var a = 1; a = a + 1; say a; var l = [1, 2]; l[0] = 5; say l[0]; class A { x; } var o = new A(); o.x = 3; say o.x;")
        self.check("fun f(a) { a = a + 1; var b = a; b = b * 2; return fun() { b = b + 1; a = b; return [a, b]; }; } var g = f(1); g(); say g()[0]; say g()[1];")
        for text in ("[1][2] = 3;", "nil[0] = 1;", "nil.x = 1;", "[].x = 1;"):
            self.check(f"try {{ {text} }} catch e {{ say e; }}")

    def test_choices_and_rounds(self):
        self.check("var i = 0; while i < 4 { if i == 1 { say 1; } else { say 2; } if i == 2 { } if i == 3 { } else { } if nil { } else { say 3; } i = i + 1; }")
        self.check("var i = 0; while i < 3 { i = i + 1; var k = 0; while k < 4 { k = k + 1; if k == 2 { continue; } if k == 4 { break; } say k; }"
                   " if i == 2 { continue; } say i; while true { while true { break; } break; } }")
        self.check("while true { while true { break; } break; } while false { } if true { } if nil { say 1; }")

    def test_break_and_continue_within_a_try_within_a_loop(self):
        self.check("var i = 0; while i < 5 { i = i + 1; try { if i == 2 { continue; } if i == 4 { break; } nil(); } catch e { say e; say i; } } nil();")
        self.check("var i = 0; while i < 5 { i = i + 1; try { throw i; } catch e { if e == 2 { continue; } if e == 4 { break; } say e; } }")
        self.check("try { while true { try { break; } catch e { say 1; } } nil(); } catch e { say e; }")
        self.check("while true { try { while true { continue_(); } } catch e { break; } } fun continue_() { throw 1; }")

    def test_return_within_a_try(self):
        self.check("fun f(n) { try { if n { return 1; } throw 2; } catch e { return e; } return 3; } say f(true); say f(nil); try { f(); } catch e { say e; }")
        self.check("fun f() { while true { try { try { return nil(); } catch e { throw [e]; } } catch e { return e[0]; } } } say f();")

    def test_tries(self):
        self.check("try { } catch e { say 1; } try { } catch e { } say 2;")
        self.check("try { try { } catch e { say e; } throw 1; } catch e { try { throw e + 1; } catch e { say e; } say e; }")
        self.check("try { try { throw 1; } catch a { throw a + 1; } } catch b { say b; }")
        self.check("fun f() { try { throw [1]; } catch e { return fun() { return e; }; } } say f()()[0];")
        self.check("try { try { return_(); } catch a { } say 1; nil(); } catch b { say b; } fun return_() { }")
        self.check("fun f() { try { var a = 1; fun() { a; }; throw a; } catch e { var a = e; say a; } } f();")

    def test_code_that_nobody_comes_to(self):
        self.check("fun f() { return 1; say 2; while true { break; } } say f(); while true { break; say 3; } while true { break; continue; }")
        self.check("fun f() { throw 1; try { say 2; } catch e { return e; } } try { f(); } catch e { say e; }")
        self.check("fun f() { while true { return 5; } } say f(); fun g(n) { if n { return 1; } else { return 2; } } say g(1); say g(nil);")
        self.check("class A { } try { say [new A(1, 2), new A(3)] + [4]; } catch e { say e; } try { nil or new A(1); } catch e { say e; }")

    def test_deep_expressions_amid_calls(self):
        deep = "n"
        for _ in range(40):
            deep = f"({deep} + 1)"
        self.check(f"fun f(n) {{ return {deep}; }} say f(f(1) + 2 * f(f(3))) - f(4);")
        self.check("fun f(a, b, c) { yield(); return [a, b, c]; } say f(1, f(2, [3, f(4, 5, yield())], 6), yield())[1][1][1][0];")
        self.check("[" * 40 + "yield()" + "]" * 40 + ";")

    def test_a_fun_that_keeps_variables_through_several_funs(self):
        self.check("fun f(a, b) { return fun(c) { return fun() { return fun() { a = a + b; c = c + 1; return [a, b, c]; }; }; }; }"
                   " var g = f(1, 2)(3)(); g(); var l = g(); say l[0]; say l[1]; say l[2];")

    def test_variables_of_rounds(self):
        self.check("var l = []; var i = 0; while i < 4 { var k = i; l = l + [fun() { k = k + 1; return k; }]; i = i + 1; } l[0](); say l[0](); say l[3]();")
        self.check("fun f() { var i = 0; var l = []; while i < 4 { i = i + 1; if i == 2 { continue; } var k = i; try { if i == 3 { throw k; } l = l + [fun() { return k; }]; }"
                   " catch e { l = l + [fun() { e = e + k; return e; }]; } } return l; } var l = f(); say l[0](); say l[1](); say l[2]();")

    def test_methods(self):
        self.check("class A { x; init(a) { this.x = a; } m(a) { return fun() { return this.x + a; }; } } class B of A { y; init(a, b) { super.init(a); this.y = b; }"
                   " m(a) { var g = super.m(a); return fun() { return g() + super.m(a)() + this.y; }; } }"
                   " var b = new B(1, 2); say b.m(10)(); say b.x; say b.y; try { b.m(); } catch e { say e; } try { b.n(); } catch e { say e; }")

    def test_threads(self):
        self.check("var l = [0]; fun w(n) { return fun() { var i = 0; while i < 3 { l[0] = l[0] + n; i = i + 1; yield(); } return l[0]; }; }"
                   " var a = spawn(w(1)); var b = spawn(w(10)); say join(a); say join(b); try { join(spawn(fun() { throw l; })); } catch e { say e[0]; }",
                   ((3, "switch"), (5, "switch"), (6, "switch"), (9, "switch")))
        self.check("var t = nil; t = spawn(fun() { join(t); }); try { join(t); } catch e { say e; } try { join(5); } catch e { say e; }")

    def test_calls_deep(self):
        self.check("fun f(n) { if n == 0 { return 0; } return f(n - 1) + 1; } say f(198); try { f(199); } catch e { say e; }")

    def test_a_list_of_very_many(self):
        program = (("say", ("ask", "len", (("list", (("nil",),) * 15000),))),)
        unit = compiled(program)
        self.assertIs(refused(unit), None)
        plain, machine = Plain(program, ()), MachineModel(unit, ())
        plain.run(5)
        machine.run(5)
        self.assertEqual(plain.lines(), ["15000"])
        self.assertEqual(machine.told(), all_of(plain))

    def test_very_many_statements(self):
        program = (("if", ("true",), (("say", ("nil",)),) * 9000, (("say", ("true",)),) * 9000),)
        self.assertIs(refused(compiled(program)), None)

    def test_the_deepest_programs(self):
        block = (("break",),)
        for at in range(49):
            block = (("while", ("true",), block),) if at % 2 else (("try", block, "e", block[:0]),)
        self.assertIs(refused(compiled(block)), None)
        plain, machine = Plain(block, ()), MachineModel(compiled(block), ())
        plain.run(300)
        machine.run(300)
        self.assertEqual(machine.told(), all_of(plain))
        node = ("nil",)
        for _ in range(48):
            node = ("not", node)
        self.assertIs(refused(compiled((("say", node),))), None)
        node = ("nil",)
        for _ in range(24):
            node = ("fun", (), (("return", node),))
        unit = compiled((("do", node),))
        self.assertEqual(len(unit.codes), 25)
        self.assertIs(refused(unit), None)


if __name__ == "__main__":
    unittest.main()
