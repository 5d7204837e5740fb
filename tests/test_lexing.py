"""[1.1] words(text)."""

import unittest

from tests.told import NO_STRINGS, told
from unseenheap.errors import BadText, NoText
from unseenheap.lexing import words

KEYS = (
    "class of fun var if else while break continue return throw try catch say true false nil this super new and or"
    " not len weak worth number spawn join yield mod"
).split()
MARKS = "( ) [ ] { } , ; . = == != < <= > >= + - * /".split()
BARRED = chr(37)


class Sorts(unittest.TestCase):
    def test_names(self):
        for name in ("a", "Z", "_", "a1", "_1", "__", "aB_9", "x" * 20, "X" + "9" * 19, "classs", "If", "of_", "mod1"):
            self.assertEqual(words(name), [("name", name, 1)])

    def test_names_of_more_than_20_signs(self):
        for name in ("x" * 21, "_" * 21, "a" + "1" * 20, "class" * 5):
            self.assertEqual(told(words, name), ("BadText", 1))

    def test_keys(self):
        self.assertEqual(len(KEYS), 31)
        for key in KEYS:
            self.assertEqual(words(key), [("key", key, 1)])
            self.assertEqual(words(key + "_"), [("name", key + "_", 1)])
            self.assertEqual(words(key.upper()), [("name", key.upper(), 1)])

    def test_what_is_called_as_sorts_are(self):
        self.assertEqual([word[0] for word in words("name key number text mark END NAME")],
                         ["name", "name", "key", "name", "name", "name", "name"])

    def test_numbers(self):
        for number in (0, 1, 9, 10, 100, 2 ** 59 - 1):
            self.assertEqual(repr(words(str(number))), repr([("number", number, 1)]))

    def test_numbers_that_are_none(self):
        for figures in ("00", "01", "007", str(2 ** 59), "9" * 18, "1" + "0" * 18, "0" * 30, "9" * 5000, "1" * 20000):
            self.assertEqual(told(words, figures), ("BadText", 1))

    def test_stretches_that_are_no_word(self):
        for stretch in ("1a", "1_", "0x", "1e5", "9class", "1_000", "0_"):
            self.assertEqual(told(words, stretch), ("BadText", 1))

    def test_marks(self):
        for mark in MARKS:
            self.assertEqual(words(mark), [("mark", mark, 1)])

    def test_texts(self):
        for text, word in (
            ('""', ""), ('""""', '"'), ('""""""', '""'), ('"a""b"', 'a"b'), ('"""a"', '"a'), ('"a"""', 'a"'),
            ('"# no note"', "# no note"), ('"class"', "class"), ('"12"', "12"), ('" "', " "), ('"\\n"', "\\n"),
            ("\"'\"", "'"),
        ):
            self.assertEqual(words(text), [("text", word, 1)])

    def test_all_signs_that_may_stand_in_texts_and_notes(self):
        signs = "".join(chr(number) for number in range(32, 127) if number not in (34, 37))
        self.assertEqual(words(f'"{signs}"'), [("text", signs, 1)])
        self.assertEqual(words("#" + signs + '"\na'), [("name", "a", 2)])

    def test_long_texts(self):
        self.assertEqual(words('"' + "a" * 19998 + '"'), [("text", "a" * 19998, 1)])
        self.assertEqual(words('"' + '""' * 9000 + '"'), [("text", '"' * 9000, 1)])


class Cutting(unittest.TestCase):
    def test_no_words(self):
        for text in ("", " ", "\n", "\n \n\n", "#", "# note", "\n# a\n#b"):
            self.assertEqual(words(text), [])

    def test_each_word_is_as_long_as_can_be(self):
        for text, cut in (
            ("===", ["==", "="]), ("<==", ["<=", "="]), (">=>", [">=", ">"]), ("=>", ["=", ">"]), ("=<", ["=", "<"]),
            ("!==", ["!=", "="]), ("====", ["==", "=="]), ("--", ["-", "-"]), ("<>", ["<", ">"]), ("= =", ["=", "="]),
            ("a.b", ["a", ".", "b"]), ("1.2", [1, ".", 2]), ("-1", ["-", 1]), ("iff", ["iff"]), ("if f", ["if", "f"]),
            ("a(b)[c]", ["a", "(", "b", ")", "[", "c", "]"]), ('a"b"1', ["a", "b", 1]), ('"a" "b"', ["a", "b"]),
            ('"" ""', ["", ""]), ("1 2", [1, 2]), ("+-*/", ["+", "-", "*", "/"]), ("a#b", ["a"]), ("1#2", [1]),
        ):
            self.assertEqual([word for _, word, _ in words(text)], cut, text)

    def test_sorts_in_a_row(self):
        self.assertEqual(words('say x<=10 "t" ;'), [
            ("key", "say", 1), ("name", "x", 1), ("mark", "<=", 1), ("number", 10, 1), ("text", "t", 1),
            ("mark", ";", 1),
        ])

    def test_lines(self):
        self.assertEqual(words("\n\n a # b\n# c\n\n  d e\n"), [("name", "a", 3), ("name", "d", 6), ("name", "e", 6)])
        self.assertEqual(words("a\nb"), [("name", "a", 1), ("name", "b", 2)])

    def test_notes_behind_the_last_word(self):
        for end in ("# note", "\n# note", "\n# note\n", "#", " # a # b"):
            self.assertEqual(words("a" + end), [("name", "a", 1)])

    def test_a_note_ends_with_its_line(self):
        self.assertEqual(words('# "a\nb # "\n"#"'), [("name", "b", 2), ("text", "#", 3)])


class Faults(unittest.TestCase):
    def bad(self, text, line):
        self.assertEqual(told(words, text), ("BadText", line), repr(text))

    def test_no_string(self):
        for thing in NO_STRINGS:
            with self.assertRaises(NoText):
                words(thing)

    def test_signs_with_which_no_word_begins(self):
        for sign in "!$&'?@\\^`|~:" + BARRED + "\t\r\x00\x0b\x0c\x1c\x1f\x7f\x85\xa0\u00e9\u0661\u00b2\u2028\u2029\U0001f600":
            self.bad(sign, 1)
            self.bad("a\n b " + sign, 2)

    def test_a_lone_mark_of_not(self):
        self.bad("!", 1)
        self.bad("! =", 1)
        self.bad("a\n!\n=", 2)
        self.bad("=!", 1)

    def test_stretches_with_signs_of_other_alphabets(self):
        for stretch in ("\u00e9t", "t\u00e9", "a\u0661", "1\u0661", "\u0661", "\uff41", "a\u00b2"):
            self.bad("x\n" + stretch, 2)

    def test_texts_that_are_not_ended(self):
        self.bad('"', 1)
        self.bad('"a', 1)
        self.bad('"""', 1)
        self.bad('"a""', 1)
        self.bad('\n"a\n"', 2)
        self.bad('a "b" "', 1)
        self.bad('"a\nb"', 1)
        self.bad('\n\n"' + '""' * 500, 3)

    def test_signs_that_may_not_stand_in_texts_and_notes(self):
        for sign in BARRED + "\t\r\x00\x1f\x7f\x80\u00e9\u2028\x85\x0b\x0c\x1c":
            self.bad(f'a\n"b{sign}c"', 2)
            self.bad(f"a\n\n# b{sign}c", 3)
            self.bad(f"a\n\n# b{sign}\nc", 3)

    def test_the_first_of_several(self):
        self.bad("a\n01\n!\n", 2)
        self.bad('a\n# \t\n"b\n', 2)
        self.bad('a\n"b\n# \t', 2)
        self.bad("x" * 21 + "\n!", 1)
        self.bad("a\nb\n! 01 \"", 3)

    def test_the_error_keeps_the_line(self):
        with self.assertRaises(BadText) as caught:
            words("\n\n?")
        self.assertEqual(caught.exception.line, 3)
        self.assertEqual(vars(caught.exception), {"line": 3})


class Calls(unittest.TestCase):
    def test_lists_are_new(self):
        first = words("a b")
        first.append(1)
        first[0] = None
        self.assertEqual(words("a b"), [("name", "a", 1), ("name", "b", 1)])

    def test_kinds_of_values(self):
        for row in words('a if 3 "t" +'):
            self.assertIs(type(row), tuple)
            self.assertEqual(len(row), 3)
            self.assertIs(type(row[2]), int)
        self.assertIs(type(words("")), list)
        self.assertEqual([type(row[1]) for row in words('a if 3 "t" + 0 1')], [str, str, int, str, str, int, int])


if __name__ == "__main__":
    unittest.main()
