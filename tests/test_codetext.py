"""[9.4], [9.5] unit_text(unit) and read_unit(text)."""

import random
import unittest

from tests.drawn_programs import drawn
from tests.drawn_units import drawn_unit, loose_unit
from tests.told import NO_STRINGS, nested, nested_dict, nested_list, told
from unseenheap.codetext import read_unit, unit_text
from unseenheap.compiling import compiled
from unseenheap.errors import HeapError
from unseenheap.examine import is_let
from unseenheap.optimise import optimised
from unseenheap.reading import read
from unseenheap.units import Code, Unit

SMALL = 'code "top" 0 0 0\ntick\npush nil\ngive\n'
ALL = (
    'text ""\ntext "a \\"b\\" \\\\"\ntop "f" 1\ntop "n" -\nclass "A"\nfield "x"\nfield "y"\nmethod "m" 2\nclass "B" of 0\nmethod "" 2\nmethod "m" 2\n'
    'code "top" 0 3 0\ntick\npush int 5\npush int -5\npush int 0\npush int 576460752303423487\npush int -576460752303423488\npush true\npush false\npush nil\n'
    'push fault kind\npush fault stuck\ntext 1\nload 0\nstore 1\ncell 2\npeek 2\npoke 2\nsee 0\nset 1000000\nname 0\nkeep 1\nfun 3\nfun 3 slot 0\n'
    'fun 3 slot 1000000 kept 0 kept 7 slot 2\nnew 1\nget "x"\nput "\\"\\\\ "\nlist 0\nlist 20000\nat\nputat\nlen\nweak\nworth\nnumber\nneg\nnot\nadd\nsub\nmul\n'
    'div\nrem\neq\nlt\nle\njump 0\nskip 1000000\ncall 2\nsend "m" 0\nup 1 "" 3\ngive\nthrow\nsay\npop\ndup\nspawn\njoin\ntick\non 0 5 7 0\non 3 4 0 1000000\n'
    'code "f" 0 0 0\ntick\ncode "A.m" 1 20000 0\ngive\ncode "" 0 0 20000\ngive\n'
)


def line_of(text):
    found = told(read_unit, text)
    if isinstance(found, tuple) and found[0] == "BadLine":
        return found[1]
    return None if isinstance(found, Unit) else found


class Texts(unittest.TestCase):
    def test_each_kind_of_line(self):
        unit = read_unit(ALL)
        self.assertEqual(unit_text(unit), ALL)
        self.assertEqual(unit.texts, ("", 'a "b" \\'))
        self.assertEqual(unit.tops, (("f", 1), ("n", None)))
        self.assertEqual(unit.classes, (("A", None, ("x", "y"), (("m", 2),)), ("B", 0, (), (("", 2), ("m", 2)))))
        self.assertEqual([(code.name, code.params, code.slots, code.keeps) for code in unit.codes], [("top", 0, 3, 0), ("f", 0, 0, 0), ("A.m", 1, 20000, 0), ("", 0, 0, 20000)])
        self.assertEqual(unit.codes[0].handlers, ((0, 5, 7, 0), (3, 4, 0, 10 ** 6)))
        self.assertEqual(unit.codes[0].rows[:11], (("tick",), *[("push", ("int", n)) for n in (5, -5, 0, 2 ** 59 - 1, -2 ** 59)], ("push", ("bool", True)),
                                                  ("push", ("bool", False)), ("push", ("nil",)), ("push", ("fault", "kind")), ("push", ("fault", "stuck"))))
        self.assertEqual(unit.codes[0].rows[21:28], (("fun", 3, ()), ("fun", 3, ((0, 0),)), ("fun", 3, ((0, 10 ** 6), (1, 0), (1, 7), (0, 2))), ("new", 1), ("get", "x"),
                                                    ("put", '"\\ '), ("list", 0)))
        self.assertEqual(unit.codes[0].rows[47:52], (("call", 2), ("send", "m", 0), ("up", 1, "", 3), ("give",), ("throw",)))

    def test_the_smallest_unit(self):
        unit = Unit((), (), (), (Code("top", 0, 0, 0, (("tick",), ("push", ("nil",)), ("give",)), ()),))
        self.assertEqual(unit_text(unit), SMALL)
        self.assertEqual(read_unit(SMALL), unit)

    def test_read_of_the_text_is_the_unit(self):
        for seed in range(200):
            for unit in (compiled(drawn(seed)), drawn_unit(seed), loose_unit(seed)):
                text = unit_text(unit)
                again = read_unit(text)
                self.assertEqual(again, unit)
                self.assertEqual(unit_text(again), text)
                if is_let(unit):
                    self.assertEqual(read_unit(unit_text(optimised(unit))), optimised(unit))

    def test_names_and_texts_with_all_signs(self):
        signs = "".join(chr(code) for code in range(32, 127))
        for at in range(0, 95, 40):
            name = signs[at:at + 41]
            unit = Unit((signs.replace(chr(37), ""), "\\", '"', '\\"', '"\\', " ", ""), ((name, None),), ((name, None, (name,), ((name, 1),)),), (
                Code(name, 0, 0, 0, (("get", name), ("send", name, 1), ("up", 0, name, 2)), ()), Code("m", 1, 1, 0, (("tick",),), ())))
            self.assertEqual(read_unit(unit_text(unit)), unit)

    def test_text_of_a_program(self):
        unit = compiled(read('class A { x; } fun f(a) { return fun() { try { a = "q"; } catch e { } }; }'))
        self.assertEqual(unit_text(unit), (
            'text "q"\ntop "f" 1\nclass "A"\nfield "x"\ncode "top" 0 0 0\ntick\npush nil\ngive\ncode "f" 1 1 0\ntick\ncell 0\nfun 2 slot 0\ngive\npush nil\ngive\n'
            'code "fun" 0 1 1\ntick\ntext 0\nset 0\njump 5\nstore 0\npush nil\ngive\non 1 3 4 0\n'))

    def test_very_long_texts_that_were_returned(self):
        unit = Unit((), (), (), (Code("top", 0, 0, 0, (("tick",), *[("push", ("int", at)) for at in range(30000)], ("give",)), ()),))
        self.assertEqual(read_unit(unit_text(unit)), unit)


class Wrong(unittest.TestCase):
    def test_no_strings(self):
        for odd in [*NO_STRINGS, nested(250), nested_list(250), nested_dict(250)]:
            self.assertEqual(told(read_unit, odd), ("BadLine", 0), repr(odd)[:50])
        with self.assertRaises(HeapError) as caught:
            read_unit(None)
        self.assertEqual(vars(caught.exception), {"line": 0})

    def test_ends(self):
        self.assertEqual(told(read_unit, ""), ("BadUnit", "codes"))
        self.assertEqual(line_of("\n"), 1)
        self.assertEqual(line_of(SMALL[:-1]), 4)
        self.assertEqual(line_of(SMALL + "x"), 5)
        self.assertEqual(line_of(SMALL + " "), 5)
        self.assertEqual(line_of(SMALL + "\n"), 5)
        self.assertEqual(line_of(SMALL + "tick"), 5)
        self.assertEqual(line_of("x"), 1)
        self.assertEqual(line_of("x\ny"), 1)
        self.assertEqual(line_of("tick"), 1)

    def test_each_sign_otherwise(self):
        """A text that is read is the text of what is read: each other one is refused at the line that is wrong."""
        chance = random.Random(5)
        lines = ALL.split("\n")
        for at in range(len(ALL)):
            for sign in ("", *chance.sample([chr(code) for code in range(32, 127)] + ["\n"], 3)):
                for text in {ALL[:at] + sign + ALL[at + 1:], ALL[:at] + sign + ALL[at:]}:
                    found = told(read_unit, text)
                    if isinstance(found, Unit):
                        self.assertEqual(unit_text(found), text)
                    elif found[0] == "BadLine":
                        line = ALL[:at].count("\n") + 1
                        self.assertTrue(line <= found[1] or text == ALL, (at, sign, found))
                        self.assertLessEqual(found[1], len(lines) + 1)
                    else:
                        self.assertIn(found[0], ("BadCode", "BadUnit"))

    def test_lines_that_are_not_written_so(self):
        def behind(line, ahead='code "top" 0 3 0\ntick\n'):
            return line_of(ahead + line + "\n")
        for line in ("", " ", "tick ", " tick", "Tick", "ticks", "tick 1", "push", "push  nil", "push nil ", "push int", "push int ", "push int  5", "push int +5", "push int 05",
                     "push int -05", "push int -0", "push int --5", "push int 5 5", "push int 5.0", "push int 5_0", "push int x", 'push int "5"', "push 5", "push bool true", "push True", "push true 1", "push nil 0", "push fault",
                     "push fault Kind", 'push fault "kind"', "push fault kind kind", "push fault none", "push thread 1", "push thing 1", "push int 576460752303423488",
                     "push int -576460752303423489", "push int " + "1" * 20, "text", 'text "a"', "text -1", "text 01", "text 0 0", "load x", "load 1000001", "load -0", "load +1",
                     "load " + "0" * 5, "fun", "fun -1", "fun 1 slot", "fun 1 slot -1", "fun 1 kept 01", "fun 1 0 0", "fun 1 slot 0 1", "fun 1 slots 0", "fun 1 slot 0 kept", 'fun 1 "slot" 0',
                     "fun 1 slot  0", "get", "get x", 'get "x', 'get x"', 'get "x" ', 'get "x" 1', 'get "x""y"', 'get "x"y', 'get "\\x"', 'get "\\"', 'get "a\\', 'get "' + "x" * 42 + '"', "get 'x'",
                     "list", "list 20001", "list -1", 'list "1"', "at 1", "call", "call 1 1", "call 20001", "send 1", 'send 1 "m"', 'send "m"', 'send "m" x', 'send "m"  1', 'up "A" "m" 1', 'up 1 "m"', 'up 1 2 3', "up 1 m 3",
                     "jump", "jump 1000001", "jump -1", "skip x", "add 1", "give 1", "join 0", "yield", "new", 'new "A"', "on", "on 1 2 3", "on 1 2 3 4 5", "on 1 2 3 -4", "on 1 2 3 x", "on 01 2 3 4",
                     'on "1" 2 3 4', "on 1  2 3 4", "on " + "1" * 21 + " 2 3 4", 'code "f" 0 0', 'code "f" 0 0 0 0', 'code f 0 0 0', 'code "f 0 0 0', 'code "f" -1 0 0', 'code "f" 00 0 0', 'code  "f" 0 0 0',
                     'code "f" ' + "1" * 21 + " 0 0", "field \"x\"", 'method "m" 1', 'top "a" -', 'class "A"', "# note", "push\tnil"):
            self.assertEqual(behind(line), 3, line)

    def test_lines_ahead_of_codes(self):
        for line in ("text", "text a", 'text "a', 'text "a" ', 'text "a" "b"', 'text "a\\n"', 'text "\\"', 'text ""a"', 'text 1', 'Text "a"', ' text "a"', 'text  "a"', "top", 'top "a"', 'top "a" --', 'top "a" -1', 'top "a" 01',
                     'top "a" 1 1', "top a 1", 'top "a" x', 'top "a" ' + "1" * 21, 'class', "class A", 'class "A" of', 'class "A" 0', 'class "A" of -', 'class "A" of -1', 'class "A" of 00', 'class "A" of "B"', 'class "A" Of 0', 'class "A" of 0 0',
                     'field "x"', 'method "m" 1', "tick", "push nil", "on 0 1 2 3", "", 'texts "a"'):
            self.assertEqual(line_of(line + "\n" + SMALL), 1, line)
        for line in ("field", "field x", 'field "x" 1', 'field "x" ', 'fields "x"', "method", 'method "m"', "method m 1", 'method "m" -', 'method "m" x', 'method "m" 1 1', 'method "m" 01', 'method "m" ' + "1" * 21):
            self.assertEqual(line_of('class "A"\n' + line + "\n" + SMALL), 2, line)

    def test_lines_in_another_order(self):
        self.assertEqual(line_of('top "a" -\ntext "a"\n' + SMALL), 2)
        self.assertEqual(line_of('class "A"\ntext "a"\n' + SMALL), 2)
        self.assertEqual(line_of('class "A"\ntop "a" -\n' + SMALL), 2)
        self.assertEqual(line_of(SMALL + 'text "a"\n'), 5)
        self.assertEqual(line_of(SMALL + 'top "a" -\n'), 5)
        self.assertEqual(line_of(SMALL + 'class "A"\n'), 5)
        self.assertEqual(line_of(SMALL + 'field "x"\n'), 5)
        self.assertEqual(line_of('class "A"\nmethod "m" 0\nfield "x"\n' + SMALL), 3)
        self.assertEqual(line_of('text "a"\nfield "x"\n' + SMALL), 2)
        self.assertEqual(line_of(SMALL + "on 0 1 2 0\ntick\n"), 6)
        self.assertEqual(line_of(SMALL + "on 0 1 2 0\ntext 0\n"), 6)
        self.assertEqual(line_of('text "a"\ntop "a" -\ntop "b" -\nclass "A"\nfield "x"\nclass "B"\nfield "x"\n' + SMALL + "on 0 1 2 0\non 0 1 2 0\n" + SMALL.replace("top", "f")), None)

    def test_lines_twice_and_left_out(self):
        lines = ALL.split("\n")[:-1]
        for at in range(len(lines)):
            for text in ("\n".join(lines[:at] + lines[at + 1:]) + "\n", "\n".join(lines[:at + 1] + lines[at:]) + "\n"):
                found = told(read_unit, text)
                if isinstance(found, Unit):
                    self.assertEqual(unit_text(found), text)
                else:
                    self.assertIn(found[0], ("BadLine", "BadCode", "BadUnit"))

    def test_numbers_of_20_and_21_figures(self):
        self.assertEqual(told(read_unit, SMALL + "on 1 " + "9" * 20 + " 3 4\n").codes[0].handlers, ((1, 10 ** 20 - 1, 3, 4),))
        self.assertEqual(line_of(SMALL + "on 1 " + "9" * 21 + " 3 4\n"), 5)
        self.assertEqual(told(read_unit, 'code "top" 0 ' + "1" * 20 + " 0\ntick\n"), ("BadCode", "slots"))
        self.assertEqual(line_of('code "top" 0 ' + "1" * 21 + " 0\ntick\n"), 1)
        self.assertEqual(told(read_unit, 'top "a" ' + "1" * 20 + "\n" + SMALL), ("BadUnit", "tops"))
        self.assertEqual(line_of('top "a" ' + "1" * 21 + "\n" + SMALL), 1)
        self.assertEqual(line_of(SMALL + "push int " + "1" * 20 + "\n"), 5)

    def test_codes_that_are_none(self):
        for head, part in (('code "' + "x" * 42 + '" 0 0 0', "name"), ('code "f" 0 20001 0', "slots"), ('code "f" 1 0 0', "params"), ('code "f" 0 0 20001', "keeps")):
            self.assertEqual(told(read_unit, head + "\ntick\n"), ("BadCode", part))
        self.assertEqual(told(read_unit, 'code "f" 0 0 0\n'), ("BadCode", "rows"))
        self.assertEqual(told(read_unit, 'code "f" 0 0 0\non 0 1 2 3\n'), ("BadCode", "rows"))
        for handler in ("on 1 1 0 0", "on 2 1 0 0", "on 0 1 1000001 0", "on 0 1 0 1000001"):
            self.assertEqual(told(read_unit, SMALL + handler + "\n"), ("BadCode", "handlers"))
        # The first code for which it is due, whatever the parts.
        self.assertEqual(told(read_unit, SMALL + 'code "f" 0 0 0\ncode "g" 1 0 0\ntick\n'), ("BadCode", "rows"))
        self.assertEqual(told(read_unit, SMALL + 'code "g" 1 0 0\ntick\ncode "f" 0 0 0\n'), ("BadCode", "params"))

    def test_units_that_are_none(self):
        many = "".join(f'text "{at}"\n' for at in range(20001))
        for ahead, part in (('text "a"\ntext "a"\n', "texts"), ('text "' + chr(37) + '"\n', "texts"), (many, "texts"), ('top "a" -\ntop "a" -\n', "tops"), ('top "a" 1000001\n', "tops"),
                            ('top "' + "x" * 42 + '" -\n', "tops"), ('class "A"\nfield "x"\nfield "x"\n', 0), ('class "A" of 0\n', 0), ('class "A"\nclass "B" of 1\n', 1),
                            ('class "A"\nfield "x"\nclass "B" of 0\nfield "x"\n', 1), ('class "A"\nmethod "n" 0\nmethod "m" 0\n', 0), ('class "A"\nmethod "m" 0\nmethod "m" 0\n', 0),
                            ('class "A"\nmethod "m" 1000001\n', 0), ('top "a" 0\n', ("top", 0)), ('top "a" -\ntop "b" 1\n', ("top", 1)), ('class "A"\nmethod "m" 0\n', ("method", 0, "m"))):
            self.assertEqual(told(read_unit, ahead + SMALL), ("BadUnit", part), ahead[:60])
        self.assertEqual(told(read_unit, 'code "top" 1 1 0\ntick\n'), ("BadUnit", "top"))
        self.assertEqual(told(read_unit, 'text "a"\n'), ("BadUnit", "codes"))

    def test_a_line_ahead_of_what_would_be_refused(self):
        self.assertEqual(line_of('text "a"\ntext "a"\ncode "f" 1 0 0\n' + SMALL + "x\n"), 8)
        self.assertEqual(line_of('text "a"\ntext "a"\ncode "f" 1 0 0\n' + SMALL + "x"), 8)
        self.assertEqual(told(read_unit, 'text "a"\ntext "a"\ncode "f" 1 0 0\n' + SMALL), ("BadCode", "params"))
        self.assertEqual(told(read_unit, 'text "a"\ntext "a"\n' + SMALL), ("BadUnit", "texts"))


if __name__ == "__main__":
    unittest.main()
