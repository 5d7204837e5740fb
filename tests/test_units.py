"""[7.1] Code; [7.3] Unit, fields(unit, c), method(unit, c, name)."""

import unittest

from tests.told import NO_STRINGS, nested, nested_dict, nested_list, told
from unseenheap.rooms import Room
from unseenheap.units import Code, Unit, fields, method

MOST = 10 ** 6
TICK = (("tick",), ("push", ("nil",)), ("give",))
BARRED = chr(37)
NO_NUMBERS = [odd for odd in NO_STRINGS if isinstance(odd, bool) or not isinstance(odd, int)] + [-1, "1", nested(250), nested_list(250)]
NO_TUPLES = [odd for odd in NO_STRINGS if not isinstance(odd, tuple)] + ["ab", nested_list(250), nested_dict(250)]
BAD_NAMES = ["n" * 42, "\n", "a\n", "a\nb", None, 1, True, b"a", ("a",), ["a"], nested(240)]
GOOD_NAMES = ["", "a", "n" * 41, " ", "A.b c", '"\\', BARRED]


def code(name="f", params=0, slots=0, keeps=0, rows=TICK, handlers=()):
    return Code(name, params, slots, keeps, rows, handlers)


def bad(**parts):
    return told(lambda: code(**parts))


TOP = code("top")
PARAM = code("m", 1, 1)
KEEPS = code("k", 0, 0, 1)
BOTH = code("b", 1, 1, 1)
CODES = (TOP, code("f"), PARAM, KEEPS, BOTH)


def unit(texts=(), tops=(), classes=(), codes=CODES):
    return Unit(texts, tops, classes, codes)


def refused(**parts):
    found = told(lambda: unit(**parts))
    assert isinstance(found, tuple) and found[0] == "BadUnit", found
    return found[1]


class Codes(unittest.TestCase):
    def test_attributes(self):
        made = Code("abc", 1, 2, 3, TICK, ((0, 1, 2, 0),))
        self.assertEqual((made.name, made.params, made.slots, made.keeps, made.rows, made.handlers), ("abc", 1, 2, 3, TICK, ((0, 1, 2, 0),)))

    def test_names(self):
        for name in GOOD_NAMES:
            self.assertEqual(code(name).name, name)
        for name in [*BAD_NAMES, *NO_STRINGS]:
            self.assertEqual(bad(name=name), ("BadCode", "name"), repr(name)[:50])

    def test_slots_and_params(self):
        for params, slots in ((0, 0), (0, 1), (1, 1), (3, 20000), (20000, 20000), (19999, 20000)):
            self.assertEqual((code("f", params, slots).params, code("f", params, slots).slots), (params, slots))
        for slots in [20001, 10 ** 39, -1, *NO_NUMBERS]:
            self.assertEqual(bad(slots=slots), ("BadCode", "slots"), repr(slots)[:50])
        for params, slots in ((1, 0), (2, 1), (20000, 19999), (10 ** 39, 5), (-1, 5)):
            self.assertEqual(bad(params=params, slots=slots), ("BadCode", "params"))
        for params in NO_NUMBERS:
            self.assertEqual(bad(params=params, slots=5), ("BadCode", "params"), repr(params)[:50])

    def test_keeps(self):
        for keeps in (0, 1, 20000):
            self.assertEqual(code(keeps=keeps).keeps, keeps)
        for keeps in [20001, 10 ** 39, *NO_NUMBERS]:
            self.assertEqual(bad(keeps=keeps), ("BadCode", "keeps"), repr(keeps)[:50])

    def test_rows_that_are_no_tuple_of_so_many(self):
        for rows in [(), list(TICK), *NO_TUPLES]:
            self.assertEqual(bad(rows=rows), ("BadCode", "rows"), repr(rows)[:50])
        self.assertEqual(len(code(rows=(("tick",),) * 200000).rows), 200000)
        self.assertEqual(bad(rows=(("tick",),) * 200001), ("BadCode", "rows"))
        self.assertEqual(bad(rows=(None,) * 200001), ("BadCode", "rows"))
        self.assertEqual(code(rows=(("give",),)).rows, (("give",),))

    def test_the_first_that_is_no_row(self):
        for odd in (None, (), ["tick"], "tick", ("tock",), ("tick", 0), ("push", ("thing", 1)), True, 0, nested(249), ("load", True)):
            self.assertEqual(bad(rows=(odd,)), ("BadCode", 0), repr(odd)[:50])
            self.assertEqual(bad(rows=(*TICK, odd, None)), ("BadCode", 3), repr(odd)[:50])
            self.assertEqual(bad(rows=(("tick",), odd, ("tick",), odd)), ("BadCode", 1))

    def test_handlers(self):
        for handlers in ((), ((0, 1, 0, 0),), ((3, 4, MOST, MOST),), ((0, 10 ** 39, 0, 0),), ((10 ** 39 - 1, 10 ** 39, 5, 5), (0, 1, 0, 0)),
                         ((0, 1, 0, 0),) * 20000):
            self.assertEqual(code(handlers=handlers).handlers, handlers)
        for handler in ((1, 1, 0, 0), (2, 1, 0, 0), (0, 1, MOST + 1, 0), (0, 1, 0, MOST + 1), (-1, 1, 0, 0), (0, 1, -1, 0), (0, 1, 0, -1),
                        (0, 1, 0), (0, 1, 0, 0, 0), (), [0, 1, 0, 0], None, "abcd", 5, (False, 1, 0, 0), (0, True, 0, 0), (0, 1, False, 0), (0, 1, 0, True),
                        ("0", 1, 0, 0), (0, None, 0, 0), (0, 1, (1,), 0), (0, 1, 0, [1]), nested(240), (-2, -1, 0, 0)):
            self.assertEqual(bad(handlers=(handler,)), ("BadCode", "handlers"), repr(handler)[:50])
            self.assertEqual(bad(handlers=((0, 1, 0, 0), handler)), ("BadCode", "handlers"), repr(handler)[:50])
        for handlers in [[], [(0, 1, 0, 0)], *NO_TUPLES, ((0, 1, 0, 0),) * 20001]:
            self.assertEqual(bad(handlers=handlers), ("BadCode", "handlers"), repr(handlers)[:50])

    def test_the_first_part_that_is_wrong(self):
        wrong = {"name": None, "slots": -1, "params": True, "keeps": None, "rows": (), "handlers": []}
        parts = list(wrong)
        for at, part in enumerate(parts):
            told_part = bad(**{name: wrong[name] for name in parts[at:]})
            self.assertEqual(told_part, ("BadCode", part))
        self.assertEqual(bad(rows=(("tick",), None), handlers=None), ("BadCode", 1))
        self.assertEqual(bad(slots=None, params=None), ("BadCode", "slots"))

    def test_equality(self):
        one = Code("f", 1, 2, 3, TICK, ((0, 1, 2, 0),))
        self.assertTrue(one == Code("f", 1, 2, 3, tuple(list(TICK)), ((0, 1, 2, 0),)))
        self.assertFalse(one != Code("f", 1, 2, 3, tuple(list(TICK)), ((0, 1, 2, 0),)))
        for other in (
            Code("g", 1, 2, 3, TICK, ((0, 1, 2, 0),)), Code("f", 2, 2, 3, TICK, ((0, 1, 2, 0),)), Code("f", 1, 3, 3, TICK, ((0, 1, 2, 0),)),
            Code("f", 1, 2, 4, TICK, ((0, 1, 2, 0),)), Code("f", 1, 2, 3, TICK[:2], ((0, 1, 2, 0),)), Code("f", 1, 2, 3, TICK, ()),
            Code("f", 1, 2, 3, TICK, ((0, 1, 2, 1),)), Code("f", 1, 2, 3, (("tick",), ("push", ("int", 0)), ("give",)), ((0, 1, 2, 0),)),
            None, 1, "f", ("f", 1, 2, 3, TICK, ((0, 1, 2, 0),)), Room(8, 8, 0), unit(), object(),
        ):
            self.assertFalse(one == other)
            self.assertTrue(one != other)
        self.assertFalse(Code("f", 0, 0, 0, (("push", ("int", 1)),), ()) == Code("f", 0, 0, 0, (("push", ("bool", True)),), ()))


class Units(unittest.TestCase):
    def test_attributes(self):
        tops, classes = (("a", None), ("f", 1)), (("A", None, ("x",), (("m", 2),)),)
        made = Unit(("", "a"), tops, classes, CODES)
        self.assertEqual((made.texts, made.tops, made.classes, made.codes), (("", "a"), tops, classes, CODES))

    def test_texts(self):
        signs = "".join(chr(n) for n in range(32, 127) if n != 37)
        for texts in ((), ("",), (signs,), ("a" * 20000,), ("a", "A", " a", "a "), tuple(str(n) for n in range(20000))):
            self.assertEqual(unit(texts).texts, texts)
        for texts in [("a", "a"), ("", "b", ""), (BARRED,), ("a\nb",), ("\n",), ("\t",), ("\x7f",), (None,), (1,), (True,), (b"a",), ("a", ("b",)), (["a"],),
                      ["a"], *NO_TUPLES, tuple(str(n) for n in range(20001)), (nested(249),)]:
            self.assertEqual(refused(texts=texts), "texts", repr(texts)[:50])

    def test_tops(self):
        for tops in ((), (("a", None),), (("a", 1), ("b", 1), ("", 2)), (("n" * 41, None), (BARRED, None)),
                     tuple((str(n), None) for n in range(20000))):
            self.assertEqual(unit(tops=tops).tops, tops)
        for name in BAD_NAMES:
            self.assertEqual(refused(tops=((name, None),)), "tops", repr(name)[:50])
            self.assertEqual(refused(tops=(("a", None), (name, 1))), "tops", repr(name)[:50])
        for number in [MOST + 1, -1, *[odd for odd in NO_NUMBERS if odd is not None]]:
            self.assertEqual(refused(tops=(("a", number),)), "tops", repr(number)[:50])
        for pair in ((), ("a",), ("a", 1, 2), ["a", 1], "ab", None, 1, (1, "a"), nested(249)):
            self.assertEqual(refused(tops=(pair,)), "tops", repr(pair)[:50])
        for tops in [[("a", None)], *NO_TUPLES, (("a", None), ("b", None), ("a", 1)), tuple((str(n), None) for n in range(20001))]:
            self.assertEqual(refused(tops=tops), "tops", repr(tops)[:50])
        self.assertEqual(refused(tops=(("a", MOST),)), ("top", 0))

    def test_classes_that_are_no_tuple_of_so_many(self):
        for classes in [[], [("A", None, (), ())], *NO_TUPLES, (("A", None, (), ()),) * 20001]:
            self.assertEqual(refused(classes=classes), "classes", repr(classes)[:50])
        self.assertEqual(len(unit(classes=(("A", None, (), ()),) * 20000).classes), 20000)

    def test_names_of_classes(self):
        for name in GOOD_NAMES:
            self.assertEqual(unit(classes=((name, None, (), ()),)).classes[0][0], name)
        for name in BAD_NAMES:
            self.assertEqual(refused(classes=((name, None, (), ()),)), 0)
            self.assertEqual(refused(classes=(("A", None, (), ()), (name, None, (), ()), None)), 1)

    def test_elders(self):
        unit(classes=(("A", None, (), ()), ("A", 0, (), ()), ("A", 1, (), ()), ("A", 0, (), ()), ("B", None, (), ())))
        for elder in [1, 2, MOST, *[odd for odd in NO_NUMBERS if odd is not None]]:
            self.assertEqual(refused(classes=(("A", None, (), ()), ("B", elder, (), ()), ("C", None, (), ()))), 1, repr(elder)[:50])
        self.assertEqual(refused(classes=(("A", 0, (), ()),)), 0)
        self.assertEqual(refused(classes=(("A", 1, (), ()), ("B", None, (), ()))), 0)

    def test_fields_of_classes(self):
        unit(classes=(("A", None, ("x", "y", "", "n" * 41), (("x", 2),)), ("B", 0, ("z",), ()), ("C", None, ("x",), ()), ("D", 1, ("w",), ())))
        for names in (("x", "x"), ("x", "y", "x"), ["x"], None, "x", ("x", 1), (None,), (("x",),), ("n" * 42,), ("a\n",), {}, 1, nested(240)):
            self.assertEqual(refused(classes=(("A", None, names, ()),)), 0, repr(names)[:50])
        self.assertEqual(refused(classes=(("A", None, ("x",), ()), ("B", 0, ("x",), ()))), 1)
        self.assertEqual(refused(classes=(("A", None, ("x",), ()), ("B", 0, ("y",), ()), ("C", 1, ("z", "x"), ()))), 2)
        self.assertEqual(refused(classes=(("A", None, ("x",), ()), ("B", 0, (), ()), ("C", 1, ("x",), ()))), 2)
        self.assertEqual(refused(classes=(("A", None, ("x",), ()), ("B", 0, ("y",), ()), ("C", 1, ("z", "y"), ()), None)), 2)

    def test_methods_of_classes(self):
        unit(classes=(("A", None, (), (("", 2), ("A", 2), ("B", 2), ("a", 2), ("b", 2), ("n" * 41, 2))),))
        for methods in ((("b", 2), ("a", 2)), (("a", 2), ("a", 2)), (("a", 2), ("a", 3)), (("a", 2), ("b", 2), ("aa", 2)), (("a", 2), ("B", 2)),
                        [("a", 2)], (["a", 2],), ("a2",), (("a",),), (("a", 2, 3),), (("a", True),), (("a", None),), (("a", -1),), (("a", MOST + 1),),
                        ((None, 2),), ((1, 2),), (("n" * 42, 2),), (("a\n", 2),), None, "ab", {}, nested(240), ((2, "a"),), (("a", "2"),)):
            self.assertEqual(refused(classes=(("A", None, (), methods),)), 0, repr(methods)[:50])
        self.assertEqual(refused(classes=(("A", None, (), (("a", MOST),)),)), ("method", 0, "a"))

    def test_classes_of_other_lengths_and_kinds(self):
        for odd in ((), ("A",), ("A", None, ()), ("A", None, (), (), ()), ["A", None, (), ()], None, "ABCD", 1, True, {}, nested(249), CODES[0]):
            self.assertEqual(refused(classes=(odd,)), 0, repr(odd)[:50])
            self.assertEqual(refused(classes=(("A", None, (), ()), odd, odd)), 1, repr(odd)[:50])

    def test_codes(self):
        self.assertEqual(len(unit(codes=(TOP,)).codes), 1)
        self.assertEqual(len(unit(codes=(TOP,) * 20000).codes), 20000)
        for codes in [(), [TOP], *NO_TUPLES, (TOP,) * 20001, (None,), (TOP, None), (TOP, "f"), (TOP, (TOP,)), (TOP, TICK), (unit(),)]:
            self.assertEqual(refused(codes=codes), "codes", repr(codes)[:50])

    def test_code_0(self):
        for first in (PARAM, KEEPS, BOTH):
            self.assertEqual(refused(codes=(first, TOP)), "top")
        self.assertEqual(unit(codes=(code("any", 0, 5),)).codes[0].slots, 5)

    def test_codes_of_top_names(self):
        for tops, k in (
            ((("a", 5),), 0), ((("a", 0),), 0), ((("a", 3),), 0), ((("a", 4),), 0), ((("a", 1), ("b", None), ("c", 0), ("d", 9)), 2),
            ((("a", None), ("b", 3), ("c", 0)), 1),
        ):
            self.assertEqual(refused(tops=tops), ("top", k))
        unit(tops=(("a", 1), ("b", 2), ("c", 1), ("d", None)))

    def test_codes_of_methods(self):
        for number in (0, 1, 3, 4, 5, MOST):
            self.assertEqual(refused(classes=(("A", None, (), (("m", number),)),)), ("method", 0, "m"), number)
        self.assertEqual(refused(classes=(("A", None, (), (("a", 2), ("b", 9), ("c", 9))), ("B", None, (), (("a", 9),)))), ("method", 0, "b"))
        self.assertEqual(refused(classes=(("A", None, (), (("a", 2),)), ("A", None, (), (("b", 2), ("c", 0))))), ("method", 1, "c"))
        unit(classes=(("A", None, (), (("a", 2), ("b", 2))), ("B", 0, (), (("a", 2),))))

    def test_the_order_of_errors(self):
        last = {"classes": (("A", None, (), (("m", 0),)),)}
        self.assertEqual(refused(**last), ("method", 0, "m"))
        last["tops"] = (("a", 9),)
        self.assertEqual(refused(**last), ("top", 0))
        last["codes"] = (PARAM,)
        self.assertEqual(refused(**last), "top")
        last["codes"] = ()
        self.assertEqual(refused(**last), "codes")
        last["classes"] = (("A", None, (), ()), None)
        self.assertEqual(refused(**last), 1)
        last["classes"] = None
        self.assertEqual(refused(**last), "classes")
        last["tops"] = None
        self.assertEqual(refused(**last), "tops")
        last["texts"] = None
        self.assertEqual(refused(**last), "texts")

    def test_equality(self):
        parts = (("a",), (("f", 1),), (("A", None, ("x",), (("m", 2),)),), CODES)
        one = Unit(*parts)
        self.assertTrue(one == Unit(("a",), (("f", 1),), (("A", None, ("x",), (("m", 2),)),), (code("top"), code("f"), code("m", 1, 1), KEEPS, BOTH)))
        self.assertFalse(one != Unit(*parts))
        for at, other in ((0, ("b",)), (0, ()), (1, (("f", None),)), (1, ()), (2, ()), (2, (("A", None, ("y",), (("m", 2),)),)), (3, CODES[:4]),
                          (3, (*CODES[:4], code("other", 1, 1, 1)))):
            self.assertFalse(one == Unit(*[other if k == at else part for k, part in enumerate(parts)]))
        for other in (None, 1, "unit", parts, TOP, Room(8, 8, 0), object()):
            self.assertFalse(one == other)
            self.assertTrue(one != other)


FAMILY = unit(classes=(
    ("A", None, ("x", "y"), (("a", 2), ("b", 2))), ("B", 0, (), (("b", 5),)), ("C", 1, ("z",), (("c", 2),)), ("D", None, ("x",), ()), ("E", 2, ("w", "v"), (("a", 6),)),
), codes=(*CODES, code("b2", 1, 1), code("a2", 2, 2)))


class Families(unittest.TestCase):
    def test_fields(self):
        self.assertEqual([fields(FAMILY, c) for c in range(5)],
                         [("x", "y"), ("x", "y"), ("x", "y", "z"), ("x",), ("x", "y", "z", "w", "v")])

    def test_methods(self):
        wanted = {"a": [2, 2, 2, None, 6], "b": [2, 5, 5, None, 5], "c": [None, None, 2, None, 2], "d": [None] * 5, "": [None] * 5}
        for name, found in wanted.items():
            self.assertEqual([method(FAMILY, c, name) for c in range(5)], found)

    def test_many_generations(self):
        classes = (("A", None, ("f0",), (("m", 2),)), *[("A", c, (f"f{c + 1}",), ()) for c in range(2000)])
        made = unit(classes=classes)
        self.assertEqual(method(made, 2000, "m"), 2)
        self.assertEqual(method(made, 2000, "n"), None)
        self.assertEqual(fields(made, 2000), tuple(f"f{c}" for c in range(2001)))
        self.assertEqual(refused(classes=(*classes, ("A", 2000, ("f0",), ()))), 2001)

    def test_what_is_no_class(self):
        for c in [5, MOST, 10 ** 39, *NO_NUMBERS]:
            self.assertEqual(told(fields, FAMILY, c), ("NoClass",), repr(c)[:50])
            self.assertEqual(told(method, FAMILY, c, "a"), ("NoClass",), repr(c)[:50])
            self.assertEqual(told(method, FAMILY, c, None), ("NoClass",), repr(c)[:50])
        self.assertEqual(told(fields, unit(), 0), ("NoClass",))
        self.assertEqual(told(method, unit(), 0, "a"), ("NoClass",))

    def test_what_is_no_name(self):
        for name in [*BAD_NAMES, *NO_STRINGS]:
            self.assertIs(method(FAMILY, 0, name), None, repr(name)[:50])


if __name__ == "__main__":
    unittest.main()
