"""[3.1], [3.2], [4.2], [4.3] values, their lines, and what is worked out of them."""

import unittest

from tests.running import plain, said, value

MOST = 2 ** 59 - 1
# An expression of each kind of value, and the line that say puts out for it.
KINDS = {
    "int": ("7", "7"), "true": ("true", "true"), "false": ("false", "false"), "nil": ("nil", "nil"),
    "fault": ("[f_()][0]", "fault zero"), "thread": ("[t_][0]", "thread 1"), "text": ('"ab"', "ab"), "list": ("[1, 2]", "list 2"),
    "object": ("new A_()", "object A_"), "function": ("f_", "function f_"), "fun": ("fun() { }", "function fun"),
    "tie": ("weak([])", "tie"),
}
AHEAD = "class A_ { x; m() { } } fun f_() { try { 1 / 0; } catch e { return e; } } var t_ = spawn(fun() { }); "


def worth(text):
    """As value, with all kinds at hand."""
    found = said(AHEAD + "try { say " + text + "; } catch thrown { say thrown; }")
    assert len(found) == 1
    return found[0]


class Lines(unittest.TestCase):
    def test_each_kind(self):
        for text, line in KINDS.values():
            self.assertEqual(worth(text), line)

    def test_integers(self):
        for number in (0, 1, -1, 42, MOST, -MOST, -MOST - 1):
            self.assertEqual(value(str(number) if number > -MOST - 1 else f"-{MOST} - 1"), str(number))

    def test_texts(self):
        self.assertEqual(value('""'), "")
        self.assertEqual(value('"a ""b"" # c"'), 'a "b" # c')

    def test_functions_of_all_sorts(self):
        self.assertEqual(said("fun abc() { } say abc; say fun() { }; var a = abc; say a;"), ["function abc", "function fun", "function abc"])

    def test_faults(self):
        for text, name in (("nil()", "kind"), ("[][0]", "index"), ("1 / 0", "zero"), (f"{MOST} + 1", "overflow"),
                           ("new A_().y", "field"), ("new A_().n()", "method"), ("f_(1)", "count")):
            self.assertEqual(worth(text), "fault " + name)
        self.assertEqual(said("fun f() { return f(); } try { f(); } catch e { say e; }"), ["fault deep"])
        self.assertEqual(said("try { join(0); } catch e { say e; }"), ["fault kind"])

    def test_lists_of_many(self):
        self.assertEqual(value("[]"), "list 0")
        self.assertEqual(value("[nil, [1, 2], 3]"), "list 3")


class Arithmetic(unittest.TestCase):
    def test_integers(self):
        for text, wanted in (
            ("1 + 2", 3), ("1 - 2", -1), ("3 * -4", -12), ("-5", -5), ("--5", 5), ("7 / 2", 3), ("7 mod 2", 1), ("0 / 5", 0),
            ("6 / 3", 2), ("6 mod 3", 0), ("2 - 3 - 4", -5), ("2 - (3 - 4)", 3), ("2 + 3 * 4", 14), ("20 / 2 / 5", 2), ("17 mod 10 mod 4", 3),
        ):
            self.assertEqual(value(text), str(wanted))

    def test_quotients_are_rounded_down(self):
        for one in (-7, -6, -1, 0, 1, 6, 7):
            for other in (-3, -2, -1, 1, 2, 3):
                self.assertEqual(value(f"{one} / {other}"), str(one // other))
                self.assertEqual(value(f"{one} mod {other}"), str(one % other))

    def test_both_ends_of_what_is_a_value(self):
        for text, wanted in (
            (f"{MOST} + 0", MOST), (f"{MOST - 1} + 1", MOST), (f"-{MOST} - 1", -MOST - 1), (f"{2 ** 29} * {2 ** 30 - 1}", 2 ** 29 * (2 ** 30 - 1)),
            (f"(-{MOST} - 1) / 1", -MOST - 1), (f"(-{MOST} - 1) * 1", -MOST - 1), (f"-{MOST}", -MOST), (f"(-{MOST} - 1) mod -1", 0),
            (f"{2 ** 29} * -{2 ** 30}", -MOST - 1), (f"-{MOST} + -1", -MOST - 1), (f"(-{MOST} - 1) / {MOST}", -2), (f"(-{MOST} - 1) mod {MOST}", MOST - 1),
        ):
            self.assertEqual(value(text), str(wanted), text)

    def test_overflow(self):
        for text in (f"{MOST} + 1", f"-{MOST} - 2", f"{2 ** 30} * {2 ** 29}", f"-(-{MOST} - 1)", f"(-{MOST} - 1) / -1", f"{MOST} * {MOST}",
                     f"0 - (-{MOST} - 1)", f"-{MOST} - 1 + -1", f"-{MOST} * 2"):
            self.assertEqual(value(text), "fault overflow", text)

    def test_zero(self):
        for text in ("1 / 0", "0 / 0", "1 mod 0", "0 mod 0", "-1 mod 0"):
            self.assertEqual(value(text), "fault zero")

    def test_values_of_every_kind(self):
        for word in ("+", "-", "*", "/", "mod"):
            for name, (one, _) in KINDS.items():
                for other_name, (other, _) in KINDS.items():
                    if {name, other_name} == {"int"} or word == "+" and name == other_name and name in ("text", "list"):
                        continue
                    self.assertEqual(worth(f"{one} {word} {other}"), "fault kind", (word, name, other_name))
        for name, (one, _) in KINDS.items():
            self.assertEqual(worth(f"-{one}"), "-7" if name == "int" else "fault kind")

    def test_kind_goes_ahead_of_zero(self):
        self.assertEqual(value("nil / 0"), "fault kind")
        self.assertEqual(value('"a" mod 0'), "fault kind")


class Joining(unittest.TestCase):
    def test_texts(self):
        self.assertEqual(value('"ab" + "c" + ""'), "abc")
        self.assertEqual(value('"" + ""'), "")

    def test_lists(self):
        self.assertEqual(said("var a = [1, 2] + [3]; say a; say a[0]; say a[1]; say a[2];"), ["list 3", "1", "2", "3"])
        self.assertEqual(value("[] + []"), "list 0")

    def test_joined_ones_are_new(self):
        self.assertEqual(said("var a = [1]; var b = a + []; b[0] = 2; say a[0]; say b[0]; say a == b;"), ["1", "2", "false"])
        self.assertEqual(plain('say "a" + "";').made(), 3)
        self.assertEqual(said('var a = "a"; say number(a) == number(a + "");'), ["false"])

    def test_60000_and_60001(self):
        for one, none in (('"x"', '""'), ("[7]", "[]")):
            rows = ["var c = " + none + ";"]
            for figure in bin(60000)[2:]:
                rows.append("c = c + c;" + (f" c = c + {one};" if figure == "1" else ""))
            ahead = " ".join(rows) + " say len(c); "
            self.assertEqual(said(ahead + f"say len(c + {none}); try {{ say c + {one}; }} catch e {{ say e; }}"),
                             ["60000", "60000", "fault overflow"])
            self.assertEqual(said(ahead + f"try {{ say {one} + c; }} catch e {{ say e; }} try {{ say c + c; }} catch e {{ say e; }}"),
                             ["60000", "fault overflow", "fault overflow"])

    def test_kind_goes_ahead_of_overflow(self):
        self.assertEqual(value('"a" + [1]'), "fault kind")
        self.assertEqual(value('"a" + 1'), "fault kind")
        self.assertEqual(value('1 + "a"'), "fault kind")


class Comparing(unittest.TestCase):
    def test_integers(self):
        for one in (-1, 0, 1):
            for other in (-1, 0, 1):
                for word, answer in (("<", one < other), ("<=", one <= other), (">", one > other), (">=", one >= other)):
                    self.assertEqual(value(f"{one} {word} {other}"), str(answer).lower())

    def test_texts_by_their_signs_order(self):
        texts = ["", "A", "B", "Z", "_", "a", "aa", "ab", "b", " ", "~"]
        for one in texts:
            for other in texts:
                for word, answer in (("<", one < other), ("<=", one <= other), (">", one > other), (">=", one >= other)):
                    self.assertEqual(value(f'"{one}" {word} "{other}"'), str(answer).lower())

    def test_values_of_every_kind(self):
        for word in ("<", "<=", ">", ">="):
            for name, (one, _) in KINDS.items():
                for other_name, (other, _) in KINDS.items():
                    if {name, other_name} not in ({"int"}, {"text"}):
                        self.assertEqual(worth(f"{one} {word} {other}"), "fault kind", (word, name, other_name))


class Equality(unittest.TestCase):
    def test_of_all_kinds(self):
        for name, (one, _) in KINDS.items():
            for other_name, (other, _) in KINDS.items():
                same = name == other_name and name in ("int", "true", "false", "nil", "fault", "thread", "text", "function")
                self.assertEqual(worth(f"{one} == {other}"), str(same).lower(), (name, other_name))
                self.assertEqual(worth(f"{one} != {other}"), str(not same).lower(), (name, other_name))

    def test_things_are_equal_to_themselves(self):
        for name, (one, _) in KINDS.items():
            self.assertEqual(said(AHEAD + f"var a = {one}; say a == a; say a != a; say [a][0] == a;"), ["true", "false", "true"])

    def test_texts_by_their_signs(self):
        self.assertEqual(value('"ab" == "a" + "b"'), "true")
        self.assertEqual(value('"ab" != "a" + "b"'), "false")
        self.assertEqual(value('"ab" == "abc"'), "false")
        self.assertEqual(value('"" == ""'), "true")

    def test_integers_and_others(self):
        self.assertEqual(value("1 == 2"), "false")
        self.assertEqual(value("-0 == 0"), "true")
        for text in ("0 == false", "1 == true", "0 == nil", "false == nil", '1 == "1"', "2 == number([])", "[1] == 1"):
            self.assertEqual(value(text), "false", text)

    def test_faults_and_threads(self):
        self.assertEqual(said(
            "fun g(n) { try { if n { 1 / 0; } nil(); } catch e { return e; } } say g(true) == g(true); say g(true) == g(false);"
            " var t = spawn(fun() { }); var u = spawn(fun() { }); say t == t; say t == u; say t != u; say t == 1;",
        ), ["true", "false", "true", "false", "true", "false"])

    def test_lists_are_equal_if_they_are_one(self):
        self.assertEqual(value("[] == []"), "false")
        self.assertEqual(said("var a = [1]; var b = a; say a == b; b = [1]; say a == b; say weak(a) == weak(a);"),
                         ["true", "false", "false"])


class Choosing(unittest.TestCase):
    def test_not(self):
        for name, (one, _) in KINDS.items():
            self.assertEqual(worth(f"not {one}"), "true" if name in ("false", "nil") else "false")
        self.assertEqual(value("not 0"), "false")
        self.assertEqual(value('not ""'), "false")

    def test_and_or_give_one_of_their_values(self):
        for name, (one, line) in KINDS.items():
            is_false = name in ("false", "nil")
            self.assertEqual(worth(f"{one} and 5"), line if is_false else "5")
            self.assertEqual(worth(f"{one} or 5"), "5" if is_false else line)
        self.assertEqual(value("nil and nil and 3"), "nil")
        self.assertEqual(value("nil or false or 3"), "3")
        self.assertEqual(value("1 and nil or 3"), "3")
        self.assertEqual(value("true and false"), "false")

    def test_the_second_is_left_out(self):
        text = "fun f(n) { say n; return n; } fun no() { say \"no\"; return nil; } "
        self.assertEqual(said(text + "say no() and f(1);"), ["no", "nil"])
        self.assertEqual(said(text + "say f(1) and f(2);"), ["1", "2", "2"])
        self.assertEqual(said(text + "say f(1) or f(2);"), ["1", "1"])
        self.assertEqual(said(text + "say no() or f(2);"), ["no", "2", "2"])
        self.assertEqual(said(text + "say no() or no() or f(3) or f(4);"), ["no", "no", "3", "3"])

    def test_if_and_while_look_whether_a_value_is_true(self):
        for name, (one, _) in KINDS.items():
            wanted = ["no"] if name in ("false", "nil") else ["yes"]
            self.assertEqual(said(AHEAD + f'if {one} {{ say "yes"; }} else {{ say "no"; }}'), wanted)
            self.assertEqual(said(AHEAD + f'while {one} {{ say "yes"; break; }} if not {one} {{ say "no"; }}'), wanted)


class Items(unittest.TestCase):
    def test_of_lists_and_texts(self):
        self.assertEqual(value("[5, 6, 7][0]"), "5")
        self.assertEqual(value("[5, 6, 7][2]"), "7")
        self.assertEqual(value('"abc"[0]'), "a")
        self.assertEqual(value('"abc"[2]'), "c")

    def test_an_item_of_a_text_is_a_new_text(self):
        self.assertEqual(plain('var a = "abc"; say a[1]; say a[1];').made(), 3)
        self.assertEqual(said('var a = "a"; say number(a[0]) == number(a); say a[0] == a;'), ["false", "true"])
        self.assertEqual(plain("var a = [1]; say a[0]; say a[0];").made(), 1)

    def test_index(self):
        for text in ("[][0]", "[1][1]", "[1][-1]", f"[1][{MOST}]", '""[0]', '"a"[1]', '"a"[-1]'):
            self.assertEqual(value(text), "fault index", text)

    def test_kind(self):
        for name, (one, _) in KINDS.items():
            if name not in ("list", "text"):
                self.assertEqual(worth(f"{one}[0]"), "fault kind")
                self.assertEqual(worth(f"{one}[nil]"), "fault kind")
            if name != "int":
                self.assertEqual(worth(f"[1]{'[' + one + ']'}"), "fault kind")
                self.assertEqual(worth(f"\"a\"{'[' + one + ']'}"), "fault kind")

    def test_items_are_set(self):
        self.assertEqual(said("var a = [1, 2]; a[1] = 5; a[0] = a; say a[1]; say a[0] == a;"), ["5", "true"])
        ahead = AHEAD + "var a = [1]; try { "
        for name, (one, _) in KINDS.items():
            if name != "list":
                self.assertEqual(said(ahead + f"{one}[0] = 2; say 0; }} catch e {{ say e; }}"), ["fault kind"])
            if name != "int":
                self.assertEqual(said(ahead + f"a[{one}] = 2; say 0; }} catch e {{ say e; say a[0]; }}"), ["fault kind", "1"])
        for at in ("1", "-1", str(MOST)):
            self.assertEqual(said(ahead + f"a[{at}] = 2; say 0; }} catch e {{ say e; say a[0]; }}"), ["fault index", "1"])


class Asking(unittest.TestCase):
    def test_len(self):
        self.assertEqual(value("len([])"), "0")
        self.assertEqual(value("len([1, 2])"), "2")
        self.assertEqual(value('len("abc")'), "3")
        for name, (one, _) in KINDS.items():
            if name not in ("list", "text"):
                self.assertEqual(worth(f"len({one})"), "fault kind")

    def test_weak_and_worth(self):
        for name, (one, line) in KINDS.items():
            is_thing = name in ("text", "list", "object", "function", "fun", "tie")
            self.assertEqual(worth(f"weak({one})"), "tie" if is_thing else "fault kind")
            self.assertEqual(worth(f"worth({one})"), "list 0" if name == "tie" else "fault kind")
            if is_thing:
                self.assertEqual(said(AHEAD + f"var a = {one}; var b = weak(a); say worth(b) == a; say worth(b);"), ["true", line])
        self.assertEqual(plain("var a = []; weak(a); weak(a);").made(), 3)

    def test_number(self):
        for name, (one, _) in KINDS.items():
            if name not in ("text", "list", "object", "function", "fun", "tie"):
                self.assertEqual(worth(f"number({one})"), "fault kind")
        self.assertEqual(said("say number([]); say number([]); say number(fun() { }); say number(weak([]));"), ["1", "2", "3", "5"])

    def test_yield_gives_nil(self):
        self.assertEqual(value("yield()"), "nil")

    def test_spawn_and_join_of_wrong_kinds(self):
        for name, (one, _) in KINDS.items():
            if name not in ("function", "fun"):
                self.assertEqual(worth(f"spawn({one})"), "fault kind")
            if name != "thread":
                self.assertEqual(worth(f"join({one})"), "fault kind")
        self.assertEqual(worth("spawn(fun(a) { })"), "fault count")
        self.assertEqual(worth("spawn(fun() { })"), "thread 2")


if __name__ == "__main__":
    unittest.main()
