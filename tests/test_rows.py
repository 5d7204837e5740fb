"""[7.2] is_row(thing), takes(row), lays(row)."""

import unittest

from tests.told import NO_STRINGS, nested, nested_dict, nested_list, told
from unseenheap.units import is_row, lays, takes

MOST = 10 ** 6
NAME = "n" * 41
# Each word: a row of it, how many values it takes, how many it lays.
ROWS = [
    (("push", ("nil",)), 0, 1), (("text", 3), 0, 1), (("load", 0), 0, 1), (("store", 1), 1, 0), (("cell", 2), 0, 0),
    (("peek", 3), 0, 1), (("poke", 4), 1, 0), (("see", 5), 0, 1), (("set", 6), 1, 0), (("name", 7), 0, 1), (("keep", 8), 1, 0),
    (("fun", 1, ()), 0, 1), (("fun", 1, ((0, 2), (1, 3))), 0, 1), (("new", 0), 0, 1), (("get", "x"), 1, 1), (("put", "x"), 2, 0),
    (("list", 0), 0, 1), (("list", 1), 1, 1), (("list", 20000), 20000, 1), (("at",), 2, 1), (("putat",), 3, 0),
    (("len",), 1, 1), (("weak",), 1, 1), (("worth",), 1, 1), (("number",), 1, 1), (("neg",), 1, 1), (("not",), 1, 1),
    (("add",), 2, 1), (("sub",), 2, 1), (("mul",), 2, 1), (("div",), 2, 1), (("rem",), 2, 1), (("eq",), 2, 1), (("lt",), 2, 1), (("le",), 2, 1),
    (("jump", 0), 0, 0), (("skip", 0), 1, 0), (("call", 0), 1, 1), (("call", 7), 8, 1), (("call", 20000), 20001, 1),
    (("send", "m", 0), 1, 1), (("send", "m", 3), 4, 1), (("up", 1, "m", 0), 1, 1), (("up", 5, "m", 2), 3, 1),
    (("give",), 1, 0), (("throw",), 1, 0), (("say",), 1, 0), (("pop",), 1, 0), (("dup",), 1, 2), (("spawn",), 1, 1), (("join",), 1, 1),
    (("tick",), 0, 0),
]
ODD = [*NO_STRINGS, "", "tick", "a b", 20001, 10 ** 6 + 1, ("nil",), nested(200)]
NO_NUMBERS = [True, False, None, -1, 10 ** 39, "1", (1,), [1], b"1", nested_list(200)]


def rejected(test, row):
    test.assertIs(is_row(row), False, repr(row)[:80])
    test.assertEqual(told(takes, row), ("NoRow",), repr(row)[:80])
    test.assertEqual(told(lays, row), ("NoRow",), repr(row)[:80])


class Rows(unittest.TestCase):
    def test_each_word(self):
        for row, taken, laid in ROWS:
            self.assertIs(is_row(row), True, row)
            self.assertEqual((takes(row), lays(row)), (taken, laid), row)

    def test_every_word_is_here(self):
        words = (
            "push text load store cell peek poke see set name keep fun new get put list at putat len weak worth number neg not add"
            " sub mul div rem eq lt le jump skip call send up give throw say pop dup spawn join tick"
        ).split()
        self.assertEqual(sorted({row[0] for row, _, _ in ROWS}), sorted(words))
        for word in ("", "Push", "tick ", "nop", "mod", "gt", "ge", "ne", "spawned", "item", "raise", "set ", "self"):
            rejected(self, (word,))
            rejected(self, (word, 0))

    def test_a_part_too_few_or_too_many(self):
        for row, _, _ in ROWS:
            rejected(self, row[:-1])
            rejected(self, (*row, 0))
            rejected(self, (*row, "x"))
            rejected(self, (*row, None))

    def test_a_part_of_another_kind(self):
        for row, _, _ in ROWS:
            for at in range(1, len(row)):
                for odd in ODD:
                    is_number = isinstance(odd, int) and not isinstance(odd, bool)
                    if is_number and isinstance(row[at], int) and odd in (0,):
                        continue
                    if isinstance(odd, str) and isinstance(row[at], str) or row[0] == "fun" and at == 2 and odd == ():
                        continue
                    if row[0] == "push" and odd == ("nil",):
                        continue
                    if is_number and row[0] not in ("list", "call", "send") and not (row[0] == "up" and at == 3) and isinstance(row[at], int) and odd == 20001:
                        continue
                    rejected(self, (*row[:at], odd, *row[at + 1:]))

    def test_numbers_at_their_bounds(self):
        for row, _, _ in ROWS:
            for at in range(1, len(row)):
                if not isinstance(row[at], int):
                    continue
                most = 20000 if row[0] in ("list", "call", "send") or row[0] == "up" and at == 3 else MOST
                for number in (0, 1, most - 1, most):
                    self.assertIs(is_row((*row[:at], number, *row[at + 1:])), True, (row, number))
                for number in [most + 1, *NO_NUMBERS]:
                    rejected(self, (*row[:at], number, *row[at + 1:]))

    def test_names_at_their_bounds(self):
        for row, _, _ in ROWS:
            for at in range(1, len(row)):
                if not isinstance(row[at], str):
                    continue
                for name in ("", "x", NAME, " ", "A.b", '"', chr(37), "a b"):
                    self.assertIs(is_row((*row[:at], name, *row[at + 1:])), True, (row, name))
                for name in (NAME + "n", "a\nb", "\n", None, 1, b"x", ("x",), ["x"], True):
                    rejected(self, (*row[:at], name, *row[at + 1:]))

    def test_told_values_that_are_pushed(self):
        for value in (("nil",), ("int", 0), ("int", -1), ("int", 2 ** 59 - 1), ("int", -2 ** 59), ("bool", True), ("bool", False),
                      *[("fault", name) for name in "kind index zero overflow field method count deep stuck".split()]):
            self.assertIs(is_row(("push", value)), True, value)
            rejected(self, ("push", list(value)))
            rejected(self, ("push", (*value, 0)))
            rejected(self, ("push", value[:-1]))
        for value in (
            ("int", 2 ** 59), ("int", -2 ** 59 - 1), ("int", True), ("int", None), ("int", "1"), ("int",), ("bool", 1), ("bool", 0), ("bool",),
            ("bool", None), ("nil", None), ("fault", "Kind"), ("fault", ""), ("fault", 0), ("fault", None), ("fault", ["kind"]), ("fault",),
            ("thread", 0), ("thing", 1), ("text", "a"), ("thing", "kind"), ("thread", "stuck"), ("nil", "kind"), ("int", "kind"), ("list", 0), (), ("",), "nil", None, 1, True, (None,), (("nil",),), nested(240), ("int", (1,)),
        ):
            rejected(self, ("push", value))

    def test_cells_of_a_fun(self):
        for cells in ((), ((0, 0),), ((1, 0),), ((0, MOST), (1, MOST)), ((0, 1),) * 20000, ((1, 5), (1, 5))):
            self.assertIs(is_row(("fun", 3, cells)), True)
        for cells in (
            ((2, 0),), ((-1, 0),), ((0, -1),), ((0, MOST + 1),), ((1, MOST + 1),), ((True, 0),), ((False, 0),), ((0, True),), ((1, False),),
            ((0,),), ((0, 0, 0),), ([0, 0],), [(0, 0)], ((0, 0), None), (0, 0), None, "ab", 0, ((0, "0"),), (("0", 0),), ((0, 1),) * 20001,
            {}, {(0, 0): 1}, (((0, 0),),), nested(240), ((0, 0), (2, 0)), ((None, 0),),
        ):
            rejected(self, ("fun", 3, cells))

    def test_things_that_are_no_rows(self):
        for thing in [*NO_STRINGS, "tick", ["tick"], ("tick ",), (("tick",),), (1,), (None,), (True,), (b"tick",), {"tick": 1},
                      nested(250), nested_list(250), nested_dict(250), (nested(249),), (["tick"],), ("push", ["nil"])]:
            rejected(self, thing)


if __name__ == "__main__":
    unittest.main()
