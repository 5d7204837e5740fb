"""[12.1], [11.6] is_sound, broken and meaning_of: each sentence broken at its edges, and none ahead of it."""

import unittest

from tests.told import NO_STRINGS, nested, nested_dict, nested_list, told
from unseenheap.heaps import Heap
from unseenheap.layouts import Layout, broken, is_sound, meaning_of
from unseenheap.rooms import Room

NAMES = "room words use free scan top left copied remembered roots last".split()
OTHERS = "use free scan top left copied last".split()
NIL = ("word", 3)
ONE = ("word", 9)
TEXT, LIST, OBJECT, FUNCTION, CELL, TIE = range(6)
ROOM = Room(12, 40, 0)
ODD = [*[odd for odd in NO_STRINGS if isinstance(odd, bool) or not isinstance(odd, int)], "", "1", nested(250), nested_list(250), nested_dict(250)]


def held(handle):
    return ("held", handle)


def changed(layout, told_words=None, **parts):
    """A layout with other parts; told_words tells words by their places."""
    given = {name: getattr(layout, name) for name in NAMES}
    if told_words is not None:
        inner = list(given["words"])
        for place, word in told_words.items():
            inner[place] = word
        given["words"] = tuple(inner)
    given.update(parts)
    return Layout(*[given[name] for name in NAMES])


def still():
    """No turn is going. Nursery: a list of thing 1 and nil (3, at 0), a tie to it (4, at 4). First half: a list with
    thing 3 and 2 (1, at 12; its first word is remembered), a text (2, at 16), an object (5, at 19), a function (6, at 22),
    a cell of nil (7, at 26)."""
    heap = Heap(ROOM)
    a = heap.make("list", (NIL, NIL))
    b = heap.make("text", (("word", 521),))
    heap.gather()
    c = heap.make("list", (held(a), NIL))
    d = heap.make("tie", (held(c),))
    heap.write(a, 0, held(c))
    heap.write(a, 1, held(b))
    layout = changed(heap.layout(), {
        19: 8 + OBJECT, 20: 5, 21: 9, 22: 16 + FUNCTION, 23: 6, 24: 17, 25: 8 * 26, 26: 8 + CELL, 27: 7, 28: 3,
    }, free=29, scan=29, last=9)
    assert (layout.top, layout.remembered) == (7, (14,)) and d == 3
    return layout


def turning():
    """A turn is going: the first half is left, from 12 on: 1 (at 12, copied), 2 (a list of 1 and 3, at 16, not copied),
    3 (a cell, at 20, copied), 4 (a tie to 2, at 23, not copied); in the second half, from 52 on: 1 (at 52, a list of 2 and
    9), 3 (at 56, a cell of 2, looked at never), 5 (at 59, a list of 3's copy); nursery: 6 (at 0), a list of 1's copy."""
    words = {
        0: 8 + LIST, 1: 6, 2: 8 * 52,
        12: -53, 13: 1, 14: 8 * 16, 15: 9, 16: 16 + LIST, 17: 2, 18: 8 * 12, 19: 8 * 20, 20: -57, 21: 3, 22: 8 * 16, 23: 8 + TIE, 24: 4, 25: 8 * 16,
        52: 16 + LIST, 53: 1, 54: 8 * 16, 55: 9, 56: 8 + CELL, 57: 3, 58: 8 * 16, 59: 8 + LIST, 60: 5, 61: 0,
    }
    blank = Layout(ROOM, (0,) * 92, 1, 62, 52, 3, 14, 7, (61,), ((0, 8 * 52), (2, 3), (5, 8 * 59)), 8)
    return changed(blank, words)


class Sentences(unittest.TestCase):
    def check(self, number, layout, why=""):
        wanted = () if number is None else (number,)
        self.assertEqual(broken(layout), wanted, why)
        self.assertIs(is_sound(layout), number is None)
        if number is not None:
            self.assertEqual(told(meaning_of, layout), ("NoLayout",))

    def test_the_layouts_from_which_others_are_made(self):
        for layout in (still(), turning()):
            self.check(None, layout)
        self.assertEqual(meaning_of(still()), (((0, ("thing", 1)), (1, ("thing", 2)), (2, ("thing", 3)), (3, ("thing", 4))), (
            (1, "list", (("thing", 3), ("thing", 2))), (2, "text", (("word", 521),)), (3, "list", (("thing", 1), NIL)), (4, "tie", (("thing", 3),)))))
        self.assertEqual(meaning_of(turning()), (((0, ("thing", 1)), (2, NIL), (5, ("thing", 5))), (
            (1, "list", (("thing", 2), ONE)), (2, "list", (("thing", 1), ("thing", 3))), (3, "cell", (("thing", 2),)),
            (5, "list", (("thing", 6),)), (6, "list", (("thing", 1),)))))

    def test_what_is_no_layout(self):
        layout = still()
        given = [getattr(layout, name) for name in NAMES]
        for odd in [*ODD, 0, 5, Room(8, 8, 0), Heap(None), Heap(ROOM), tuple(given), given, Layout]:
            self.assertIs(is_sound(odd), False, repr(odd)[:50])
            self.assertEqual(told(broken, odd), ("NoLayout",), repr(odd)[:50])
            self.assertEqual(told(meaning_of, odd), ("NoLayout",), repr(odd)[:50])

    def test_what_is_free_may_be_anything(self):
        for layout, places in ((still(), [*range(7, 12), *range(29, 92)]), (turning(), [*range(3, 12), *range(26, 52), *range(62, 92)])):
            meaning = meaning_of(layout)
            for odd in (-1, 0, 7, -53, 10 ** 40, -10 ** 40, 8 * 52):
                other = changed(layout, {place: odd for place in places})
                self.check(None, other)
                self.assertEqual(meaning_of(other), meaning)

    # sentence 1

    def test_parts_of_other_kinds(self):
        for layout in (still(), turning()):
            for odd in ODD:
                for name in NAMES:
                    is_row = isinstance(odd, tuple) and all(isinstance(part, int) for part in odd)
                    if not is_row or name not in ("remembered", "roots") or name == "roots" and odd != ():
                        self.check(1, changed(layout, **{name: odd}), (name, repr(odd)[:50]))
            for name in ("room", "words", "remembered", "roots"):
                for odd in (0, 5, -1, 10 ** 39):
                    self.check(1, changed(layout, **{name: odd}))
            self.check(1, changed(layout, room=(12, 40, 0)))
            self.check(1, changed(layout, remembered=list(layout.remembered)))
            self.check(1, changed(layout, roots=list(layout.roots)))
            given = [getattr(layout, name) for name in NAMES]
            self.check(1, Layout(given[0], list(given[1]), *given[2:]))

    def test_integers_below_nought(self):
        for layout in (still(), turning()):
            for name in OTHERS:
                for odd in (-1, -2, -10 ** 39):
                    self.check(1, changed(layout, **{name: odd}), name)
            for odd in (2, 3, 10 ** 39):
                self.check(1, changed(layout, use=odd))

    def test_words_as_many_as_told(self):
        layout = still()
        given = [getattr(layout, name) for name in NAMES]
        for words in (layout.words + (0,), layout.words[:-1], (), layout.words * 2):
            self.check(1, Layout(given[0], words, *given[2:]))
        for room in (Room(12, 41, 0), Room(12, 39, 0), Room(13, 40, 0), Room(11, 40, 0)):
            self.check(1, changed(layout, room=room))
        self.check(None, changed(layout, room=Room(12, 40, 5)))

    def test_words_that_are_no_integers(self):
        for layout in (still(), turning()):
            for place in (0, 7, 12, 14, 60, 91):
                for odd in (True, False, None, "3", (3,), b"3", [3], nested(248)):
                    self.check(1, changed(layout, {place: odd}))
            for odd in (True, None, "14", (14,), b"1", [14]):
                self.check(1, changed(layout, remembered=(*layout.remembered, odd)))

    def test_roots_that_are_none(self):
        for layout in (still(), turning()):
            a, b = layout.roots[0][1], 3
            for roots in (
                ((0, a), (0, b)), ((1, a), (0, b)), ((0, a), (2, b), (1, b)), ((-1, a),), ((0,),), ((),), ((0, a, b),), (0, a), ((0, a), None), ([0, a],),
                ((True, a),), ((False, b),), ((0, True),), ((0, None),), ((None, b),), (("0", b),), ((0, "3"),), ((0, (3,)),), (((0,), 3),), ("0a",),
            ):
                self.check(1, changed(layout, roots=roots), roots)
            self.check(None, changed(layout, roots=()))
            self.check(None, changed(layout, roots=((0, a), (1, b), (10 ** 39, a))))

    def test_integers_of_any_size(self):
        for great in (10 ** 40, -10 ** 40):
            self.check(7, changed(still(), remembered=(14, great)))
            self.check(5, changed(still(), roots=((0, great * 8),)))
            self.check(3, changed(still(), {12: great}))
            self.check(3, changed(still(), {13: great}))
            self.check(5, changed(still(), {14: great * 8}))
        self.check(2, changed(still(), free=10 ** 40))
        self.check(None, changed(still(), last=10 ** 40))

    # sentence 2

    def test_top_within_the_nursery(self):
        self.check(2, changed(still(), top=13))
        self.check(2, changed(still(), top=10 ** 39))
        full = changed(still(), {7: 24 + LIST, 8: 8, 9: 3, 10: 3, 11: 3}, top=12)
        self.check(None, full)
        self.check(2, changed(full, top=13))
        self.check(None, changed(turning(), {0: 80 + LIST, **{place: 3 for place in range(2, 12)}}, top=12))

    def test_free_and_scan_within_the_half_in_use(self):
        layout = still()
        self.check(2, changed(layout, free=11, scan=11))
        self.check(2, changed(layout, free=53, scan=53))
        self.check(2, changed(layout, use=1))
        self.check(2, changed(layout, free=0, scan=0))
        blank = Layout(ROOM, (0,) * 92, 0, 12, 12, 0, 0, 0, (), (), 0)
        self.check(None, blank)
        self.check(2, changed(blank, use=1))
        self.check(None, changed(blank, use=1, free=52, scan=52))
        self.check(2, changed(blank, use=1, free=51, scan=51))
        self.check(2, changed(blank, use=1, free=93, scan=93))
        full = changed(blank, {12: 8 * 38 + LIST, 13: 1, **{place: 3 for place in range(14, 52)}}, free=52, scan=52, last=1)
        self.check(None, full)
        full = changed(blank, {52: 8 * 38 + LIST, 53: 1, **{place: 3 for place in range(54, 92)}}, use=1, free=92, scan=92, last=1)
        self.check(None, full)
        layout = turning()
        self.check(2, changed(layout, scan=51))
        self.check(2, changed(layout, scan=12))
        self.check(2, changed(layout, free=93))

    def test_scan_not_beyond_free(self):
        self.check(2, changed(turning(), scan=63))
        self.check(2, changed(turning(), scan=92))
        self.check(2, changed(turning(), free=59, scan=62))

    def test_left_and_copied(self):
        layout = turning()
        self.check(2, changed(layout, left=41))
        self.check(2, changed(layout, left=10 ** 39))
        self.check(2, changed(layout, copied=15))
        self.check(2, changed(layout, left=6))
        self.check(4, changed(layout, copied=14))
        self.check(4, changed(layout, copied=0))

    def test_no_turn_is_going(self):
        layout = still()
        self.check(2, changed(layout, copied=1))
        self.check(2, changed(layout, scan=26))
        self.check(2, changed(layout, scan=12))
        self.check(2, changed(turning(), left=0, copied=0))

    # sentence 3

    def test_heads(self):
        for place, layout in ((0, still()), (4, still()), (12, still()), (16, still()), (0, turning()), (52, turning()), (59, turning())):
            for head in (-1, -53, -13, 14, 15, 6, 7, 8 * 10 ** 20 + 1, 8 * 60001 + 1, 8 * 39 + 1):
                self.check(3, changed(layout, {place: head}), (place, head))

    def test_sizes_by_sorts(self):
        layout = still()
        for place, heads in ((26, (CELL, 16 + CELL, TIE, 16 + TIE)), (19, (OBJECT, FUNCTION)), (4, (TIE, 16 + TIE, CELL))):
            for head in heads:
                self.check(3, changed(layout, {place: head}), (place, head))
        # What lies behind must be right, too: a head with a word less, or more, moves it.
        for place, head in ((12, 8 + LIST), (12, 24 + LIST), (16, TEXT), (0, 8 + LIST), (0, 24 + LIST), (22, 8 + FUNCTION)):
            self.check(3, changed(layout, {place: head}), (place, head))

    def test_things_within(self):
        layout = still()
        self.check(3, changed(layout, {26: 16 + LIST}))
        self.check(3, changed(layout, free=28, scan=28))
        self.check(3, changed(layout, free=30, scan=30))
        self.check(3, changed(layout, free=27, scan=27))
        self.check(3, changed(layout, top=6))
        self.check(3, changed(layout, top=8))
        self.check(3, changed(layout, {7: 1}, top=8))
        self.check(3, changed(layout, {26: LIST}, top=7))
        self.check(None, changed(layout, {29: LIST, 30: 8}, free=31, scan=31))

    def test_at_most_60000_words(self):
        room = Room(8, 60010, 0)
        blank = (0,) * 8 + (8 * 60000 + LIST, 1) + (3,) * 60000 + (0,) * (8 + 60010)
        layout = Layout(room, blank, 0, 60010, 60010, 0, 0, 0, (), ((0, 64),), 1)
        self.check(None, layout)
        self.check(3, changed(layout, {8: 8 * 60001 + LIST, 60010: 3}, free=60011, scan=60011))

    def test_empty_texts(self):
        layout = changed(still(), {29: TEXT, 30: 8}, free=31, scan=31)
        self.check(None, layout)
        self.check(None, changed(layout, {7: TEXT, 8: 9}, top=9))
        self.check(None, changed(turning(), {26: TEXT, 27: 8}, left=16))
        self.check(3, changed(layout, {30: 0}))

    def test_things_that_begin_with_the_last_word(self):
        blank = Layout(ROOM, (0,) * 92, 1, 92, 92, 0, 0, 0, (), (), 3)
        good = changed(blank, {52: 8 * 38 + LIST, 53: 1, **{place: 3 for place in range(54, 92)}})
        self.check(None, good)
        for head in (LIST, TEXT, 8 + LIST, -1, -53):
            self.check(3, changed(good, {52: 8 * 37 + LIST, 91: head}))
        # The second half is left: its last word is the head of one that was copied, or of one that was not.
        left = Layout(ROOM, (0,) * 92, 0, 14, 12, 0, 40, 0, (), (), 3)
        left = changed(left, {12: LIST, 13: 2, 52: 8 * 37 + LIST, 53: 1, **{place: 3 for place in range(54, 91)}})
        for head in (LIST, TEXT, 8 + LIST, -13, -1):
            self.check(4, changed(left, {91: head}))
            self.check(4, changed(left, {91: head}, copied=2))

    def test_one_word_that_is_left(self):
        self.check(4, changed(turning(), left=1, copied=0))
        self.check(4, changed(turning(), left=1, copied=1))
        self.check(2, changed(turning(), left=1, copied=2))

    def test_where_scan_is(self):
        layout = turning()
        for scan in (53, 54, 57, 58, 60, 61):
            self.check(3, changed(layout, scan=scan), scan)
        for scan in (59, 62):
            self.check(6 if scan > 52 else None, changed(layout, scan=scan))
        good = changed(layout, {54: 8 * 56, 58: 3})
        for scan in (52, 56, 59, 62):
            self.check(None, changed(good, scan=scan))

    def test_numbers(self):
        layout = still()
        for place in (1, 5, 13, 17, 20):
            for number in (0, -1, 10, 10 ** 30, 7):
                self.check(3, changed(layout, {place: number}), (place, number))
            self.check(None, changed(layout, {place: 9}))
            self.check(None, changed(layout, {place: 8}))
        self.check(3, changed(layout, {1: 1}))
        self.check(3, changed(layout, last=6))
        self.check(None, changed(layout, last=7))
        self.check(3, changed(turning(), {1: 5}))

    # sentence 4

    def test_things_of_the_half_that_is_left(self):
        layout = turning()
        for head in (6, 14, 8 * 60001 + 1, 8 + LIST, 24 + LIST, 16 + CELL):
            self.check(4, changed(layout, {16: head}), head)
        for head in (TIE, 16 + LIST, LIST, 8 + TIE + 1):
            self.check(4, changed(layout, {23: head}), head)
        for left in (13, 15, 12, 10, 7, 40):
            self.check(4, changed(layout, left=left), left)
        self.check(None, changed(layout, {26: LIST, 27: 8}, left=16))
        self.check(None, changed(layout, left=11))

    def test_numbers_of_things_that_were_not_copied(self):
        layout = turning()
        for number in (0, -1, 9, 10 ** 30, 1, 3, 5, 6, 4):
            self.check(4, changed(layout, {17: number}), number)
        self.check(None, changed(layout, {17: 7}))

    def test_copied_things(self):
        layout = turning()
        # The new address is no thing's begin, lies elsewhere, or is beyond.
        for head in (-54, -55, -1, -13, -17, -63, -62, -10 ** 20):
            self.check(4, changed(layout, {12: head}), head)
        # Another thing lies there, or one that takes more or less.
        self.check(4, changed(layout, {12: -57}))
        self.check(4, changed(layout, {12: -60}))
        self.check(4, changed(layout, {20: -53}))
        self.check(4, changed(layout, {13: 2}))
        self.check(4, changed(layout, {13: 5}))
        self.check(4, changed(layout, {21: 1, 20: -53}))
        # A copied thing takes what its copy takes: the one at 12 would end amid the next one.
        self.check(4, changed(layout, {53: 3, 57: 1, 13: 3}))
        other = changed(layout, {12: 16 + LIST, 13: 1, 53: 7}, copied=3)
        self.check(None, changed(other, {14: 3}))

    def test_no_two_the_same_copy(self):
        layout = turning()
        # The one at 23 would be a second elder copy of 3.
        self.check(4, changed(layout, {23: -57, 24: 3}, copied=10))
        good = changed(layout, {23: -60, 24: 5}, copied=10)
        self.check(None, good)
        self.check(4, changed(good, {20: -60, 21: 5}))

    def test_what_is_copied_takes_as_much(self):
        layout = turning()
        for copied in (6, 8, 4, 3, 0, 14):
            self.check(4, changed(layout, copied=copied), copied)

    def test_a_copied_thing_at_the_end(self):
        layout = turning()
        good = changed(layout, {23: -60, 24: 5}, copied=10)
        self.check(4, changed(good, left=13))
        self.check(4, changed(good, left=12))

    # sentence 5

    def test_words_that_are_none(self):
        for layout, places in ((still(), (2, 3, 6, 14, 15, 18, 21, 24, 25, 28)), (turning(), (2, 18, 19, 25, 54, 55, 58, 61))):
            for place in places:
                for word in (6, 7, 14, -2, -1, -3, 11, 18, 76, 8 * 2 ** 59 + 1, -8 * 2 ** 59 - 7, -8, -6):
                    self.check(5, changed(layout, {place: word}), (place, word))
            for word in (6, 7, 11, 18, 76, -8, -1, 8 * 2 ** 59 + 1):
                self.check(5, changed(layout, roots=((0, word),)), word)

    def test_words_that_may_not_stand_there(self):
        layout = still()
        for place, words in ((18, (3, 2, 0, 8 * 12, 8 * 37 + 1, 8 * 31 + 1, 8 * 127 + 1, 1, -7)), (21, (3, 2, 0, 8 * 12, 5)), (24, (3, 10, 8 * 12, 29)), (6, (9, 2, 10, 4, 5))):
            for word in words:
                self.check(5, changed(layout, {place: word}), (place, word))
        for place, words in ((18, (8 * 32 + 1, 8 * 126 + 1, 8 * 36 + 1, 8 * 38 + 1)), (21, (1, -7)), (24, (1, 8 * 99 + 1)), (6, (3, 8 * 12, 0, 32)), (28, (8 * 26, 3, 2, 10, 1, 68, 29))):
            for word in words:
                self.check(None, changed(layout, {place: word}), (place, word))
        self.check(5, changed(turning(), {25: 9}))
        self.check(None, changed(turning(), {25: 3}))

    def test_words_that_lead_to_where_no_thing_begins(self):
        for layout, places, wrong in (
            (still(), (2, 15, 25, 28), (8, 16, 8 * 7, 8 * 13, 8 * 29, 8 * 52, 8 * 91, 8 * 92, 8 * 10 ** 20)),
            (turning(), (2, 18, 54, 58), (8 * 3, 8 * 13, 8 * 17, 8 * 26, 8 * 53, 8 * 62, 8 * 92)),
        ):
            for place in places:
                for word in wrong:
                    self.check(5, changed(layout, {place: word}), (place, word))
            for word in wrong:
                self.check(5, changed(layout, roots=((3, word),)))

    def test_words_of_copied_things_are_asked_nothing(self):
        for place in (14, 15, 22):
            for word in (6, -1, 8 * 13, 0, 10 ** 40):
                self.check(None, changed(turning(), {place: word}))

    # sentence 6

    def test_roots_into_what_is_left(self):
        layout = turning()
        for address in (12, 16, 20, 23):
            self.check(6, changed(layout, roots=((0, 8 * address),)))
            self.check(6, changed(layout, roots=((0, 8 * 52), (7, 3), (8, 8 * address))))
        for address in (52, 56, 59, 0):
            self.check(None, changed(layout, roots=((0, 8 * address),)))

    def test_nursery_words_into_what_is_left(self):
        for address in (12, 16, 20, 23):
            self.check(6, changed(turning(), {2: 8 * address}))
        for address in (52, 56, 59, 0):
            self.check(None, changed(turning(), {2: 8 * address}))

    def test_words_ahead_of_scan_into_what_is_left(self):
        layout = turning()
        self.check(6, changed(layout, scan=56))
        for address in (12, 16, 20, 23):
            self.check(6, changed(layout, {54: 8 * address}, scan=56))
            self.check(None, changed(layout, {54: 8 * address}))
            self.check(None, changed(layout, {54: 3, 58: 8 * address}, scan=56))
            self.check(6, changed(layout, {54: 3, 58: 8 * address}, scan=59))
            self.check(6, changed(layout, {54: 3, 58: 3, 61: 8 * address}, scan=62))
        self.check(None, changed(layout, {54: 8 * 59, 58: 8 * 52}, scan=62))

    def test_words_of_what_is_left_into_the_nursery(self):
        layout = turning()
        for place in (18, 19, 25):
            self.check(6, changed(layout, {place: 0}))
        for place in (14, 22):
            self.check(None, changed(layout, {place: 0}))

    # sentence 7

    def test_places_that_are_not_remembered(self):
        self.check(7, changed(still(), remembered=()))
        self.check(7, changed(still(), remembered=(15,)))
        self.check(7, changed(still(), {25: 0}))
        self.check(None, changed(still(), {25: 0}, remembered=(25, 14)))
        self.check(7, changed(still(), {25: 32}, remembered=(14,)))
        self.check(7, changed(turning(), remembered=()))
        self.check(7, changed(turning(), {54: 0}))
        self.check(None, changed(turning(), {54: 0}, remembered=(54, 61)))

    def test_places_that_may_not_be_remembered(self):
        for place in (12, 13, 16, 17, 29, 30, 52, 91, 92, 0, 2, 3, -1, 10 ** 39):
            self.check(7, changed(still(), remembered=(14, place)), place)
        for place in (14, 18, 25, 52, 53, 59, 62, 2, 0):
            self.check(7, changed(turning(), remembered=(61, place)), place)

    def test_each_place_once(self):
        self.check(7, changed(still(), remembered=(14, 14)))
        self.check(7, changed(still(), remembered=(14, 15, 14)))

    def test_remembered_places_with_other_words(self):
        self.check(None, changed(still(), remembered=(28, 14, 15, 18, 21)))
        self.check(None, changed(still(), {14: 3}))
        self.check(None, changed(turning(), remembered=(58, 61)))

    # sentence 8

    def test_what_is_taken(self):
        words = {0: 80 + LIST, 1: 1, **{place: 3 for place in range(2, 12)}, 12: 8 * 26 + LIST, 13: 2, **{place: 3 for place in range(14, 40)}}
        layout = changed(Layout(ROOM, (0,) * 92, 0, 40, 40, 12, 0, 0, (), (), 3), words)
        self.check(None, layout)
        self.check(8, changed(layout, {12: 8 * 27 + LIST, 40: 3}, free=41, scan=41))
        # 14 are left, of which 7 were copied; 10 are in use, and 3 in the nursery: 20 more are room.
        layout = turning()
        full = changed(layout, {62: 8 * 18 + LIST, 63: 7, **{place: 3 for place in range(64, 82)}}, free=82)
        self.check(None, full)
        self.check(8, changed(full, {62: 8 * 19 + LIST, 82: 3}, free=83))
        self.check(8, changed(full, {0: 16 + LIST, 3: 3}, top=4))

    # all of them

    def test_the_first_that_does_not_hold(self):
        layout = turning()
        wrong = [{"remembered": ()}, {"roots": ((0, 96),)}, {"roots": ((0, 6),)}, {"copied": 0}, {"last": 1}, {"scan": 99}, {"use": 5}]
        parts = {}
        for number, part in zip((7, 6, 5, 4, 3, 2, 1), wrong):
            parts.update(part)
            self.check(number, changed(layout, **parts))


if __name__ == "__main__":
    unittest.main()
