"""[11.3], [12.2] the methods of Heap: what each returns, its errors in their order, in rooms of all kinds and in none."""

import unittest

from tests.told import NO_STRINGS, nested, nested_dict, nested_list, told
from unseenheap.errors import HeapError
from unseenheap.heaps import Heap
from unseenheap.layouts import Layout
from unseenheap.rooms import Room

ROOMS = [None, Room(8, 3000, 1), Room(100, 3000, 0), Room(3000, 3000, 7), Room(9, 1000, 1000)]
SORTS = ("text", "list", "object", "function", "cell", "tie")
ODD = [*NO_STRINGS, nested(250), nested_list(250), nested_dict(250), Heap(None), Room(8, 8, 0), HeapError(), "", "a"]
NIL = ("word", 3)
ONE = ("word", 9)
LONG = 60000


def signs(text):
    return tuple(("word", 8 * ord(sign) + 1) for sign in text)


def state(heap):
    """All that a heap tells without errors."""
    found = [heap.meaning(), heap.living(), heap.reached(), heap.filled(), heap.counts(), heap.image()]
    layout = told(heap.layout)
    return [*found, layout, heap.next_handle]


class EachRoom(unittest.TestCase):
    def each(self):
        for room in ROOMS:
            with self.subTest(room=None if room is None else (room.young, room.old, room.pace)):
                yield Heap(room)

    def refuse(self, heap, error, *call):
        """A call raises an error, and changes nothing."""
        before = state(heap)
        self.assertEqual(told(getattr(heap, call[0]), *call[1:]), (error,), repr(call)[:80])
        self.assertEqual(state(heap), before)


class Making(EachRoom):
    def test_rooms(self):
        for odd in ODD:
            if odd is not None and not isinstance(odd, Room):
                self.assertEqual(told(Heap, odd), ("NoRoom",), repr(odd)[:50])

    def test_each_sort(self):
        for heap in self.each():
            a = heap.make("text", signs("a b"))
            b = heap.make("list", (("held", a), NIL, ONE, ("word", 10), ("word", 29), ("word", 68)))
            c = heap.make("object", (("word", 1), ("held", b)))
            d = heap.make("function", (("word", -7), ("held", c)))
            e = heap.make("cell", (("held", d),))
            f = heap.make("tie", (("held", e),))
            self.assertEqual([a, b, c, d, e, f], [0, 1, 2, 3, 4, 5])
            self.assertEqual([heap.sort_of(h) for h in range(6)], list(SORTS))
            self.assertEqual([heap.size(h) for h in range(6)], [3, 6, 2, 2, 1, 1])
            self.assertEqual([heap.number(h) for h in range(6)], [1, 2, 3, 4, 5, 6])
            self.assertEqual(heap.meaning(), (tuple((h, ("thing", h + 1)) for h in range(6)), (
                (1, "text", signs("a b")), (2, "list", (("thing", 1), NIL, ONE, ("word", 10), ("word", 29), ("word", 68))),
                (3, "object", (("word", 1), ("thing", 2))), (4, "function", (("word", -7), ("thing", 3))),
                (5, "cell", (("thing", 4),)), (6, "tie", (("thing", 5),)))))

    def test_sorts_that_are_none(self):
        for heap in self.each():
            for odd in [*ODD, "Text", "texts", "text ", "word", 0, 5, b"text", ("text",), ["list"]]:
                self.refuse(heap, "NoSort", "make", odd, ())
                self.refuse(heap, "NoSort", "make", odd, None)

    def test_items_that_may_not_stand_there(self):
        for heap in self.each():
            thing = ("held", heap.make("list", ()))
            word = ("held", heap.hold(ONE))
            sign = ("held", heap.hold(("word", 8 * 65 + 1)))
            nil = ("held", heap.hold(NIL))
            for sort, items in (
                ("text", (thing,)), ("text", (NIL,)), ("text", (word,)), ("text", signs("a") + (("word", 10),)),
                *[("text", (*signs("ab"), ("word", 8 * code + 1))) for code in (37, 31, 127, 0, -1, -65, 10, 2 ** 59 - 1, 65 + 2 ** 32)],
                ("text", (("word", 8 * 65 + 5),)),
                ("object", ()), ("object", (thing,)), ("object", (NIL,)), ("object", (("word", 2), ONE)), ("object", (nil, ONE)), ("object", (thing, ONE)),
                ("function", ()), ("function", (thing,)), ("function", (NIL,)), ("function", (("word", 5), ONE)), ("function", (("word", 68),)),
                ("cell", ()), ("cell", (NIL, NIL)), ("cell", (thing, thing)), ("cell", (ONE,) * 3),
                ("tie", ()), ("tie", (thing, thing)), ("tie", (NIL, NIL)), ("tie", (ONE,)), ("tie", (word,)), ("tie", (("word", 2),)), ("tie", (("word", 5),)),
            ):
                self.refuse(heap, "NoItems", "make", sort, items)
            for sort, items in (
                ("text", ()), ("text", (sign,)), ("text", signs(" ~$&") + (sign,)), ("list", ()), ("list", (thing, word, nil, NIL)),
                ("object", (ONE,)), ("object", (word,)), ("object", (sign, thing)), ("function", (("word", -7),)), ("function", (word, nil, thing)),
                ("cell", (thing,)), ("cell", (NIL,)), ("cell", (word,)), ("tie", (thing,)), ("tie", (NIL,)), ("tie", (nil,)),
            ):
                heap.make(sort, items)

    def test_items_that_are_none(self):
        for heap in self.each():
            a = heap.make("list", ())
            b = heap.make("list", ())
            heap.drop(b)
            none = [
                ("word", 0), ("word", 8), ("word", 16), ("word", 8 * 10 ** 20), ("word", 6), ("word", 7), ("word", -8), ("word", -1), ("word", 11),
                ("word", 18), ("word", 76), ("word", -3), ("word", 8 * 2 ** 59 + 1), ("word", -8 * 2 ** 59 - 7), ("word", True), ("word", None), ("word", "3"),
                ("word", (3,)), ("word", [3]), ("held", b), ("held", 2), ("held", -1), ("held", True), ("held", False), ("held", None),
                ("held", 10 ** 39), ("held", "0"), ("held", ("held", a)), ("held", [a]), ("held", {}), ["word", 3], ["held", a], ("word",), ("word", 3, 3), (), ("held",),
                ("Word", 3), ("thing", 1), (3, "word"), (b"word", 3), (("word",), 3), (["word"], 3), (None, 3), "word", "w3", 3, a, *ODD,
            ]
            for odd in none:
                self.refuse(heap, "NoItems", "make", "list", (odd,))
                self.refuse(heap, "NoItems", "make", "list", (NIL, odd, NIL))
                self.refuse(heap, "NoItems", "hold", odd)
                self.refuse(heap, "NoItems", "write", heap.make("list", (NIL,)), 0, odd)
                heap.drop(heap.next_handle - 1)
            for odd in (None, [], [NIL], {}, "list", 0, NIL, True, nested_list(250)):
                self.refuse(heap, "NoItems", "make", "list", odd)

    def test_very_many_items(self):
        heaps = [Heap(None), Heap(Room(8, 10 ** 6, 0)), Heap(Room(10 ** 5, 10 ** 5, 1))]
        for heap in heaps:
            self.assertEqual(heap.make("list", (NIL,) * LONG), 0)
            self.assertEqual(heap.size(0), LONG)
            self.assertEqual(heap.filled(), LONG + 2)
            for many in (LONG + 1, 80000):
                for sort, item in (("list", NIL), ("text", signs("a")[0]), ("object", ONE), ("function", ONE), ("cell", NIL)):
                    self.assertEqual(told(heap.make, sort, (item,) * many), ("NoItems",))
            self.assertEqual(heap.meaning()[1][0][2], (NIL,) * LONG)
            heap.drop(0)
            self.assertEqual(heap.make("text", signs("a") * LONG), 1)
            heap.drop(1)
            self.assertEqual(heap.make("object", (ONE,) * LONG), 2)
        self.assertEqual(told(Heap(Room(8, 60001, 0)).make, "list", (NIL,) * LONG), ("HeapFull", 60002))
        self.assertEqual(told(Heap(Room(8, 60002, 0)).make, "list", (NIL,) * LONG), 0)

    def test_handles_and_numbers_go_on_upward(self):
        for heap in self.each():
            for at in range(5):
                self.assertEqual(heap.make("list", ()), at)
                self.assertEqual(heap.number(at), at + 1)
            for at in range(5):
                heap.drop(at)
            self.assertEqual(heap.make("list", ()), 5)
            self.assertEqual(heap.number(5), 6)
            self.assertEqual(heap.hold(NIL), 6)
            heap.drop(6)
            self.assertEqual(heap.hold(NIL), 7)
            self.assertEqual(heap.make("cell", (("held", 5),)), 8)
            self.assertEqual(heap.number(8), 7)
            heap.whole()
            self.assertEqual(heap.read(8, 0), 9)

    def test_an_error_gives_no_handle_and_no_number(self):
        for heap in self.each():
            told(heap.make, "lists", ())
            told(heap.make, "list", None)
            told(heap.hold, 5)
            self.assertEqual(heap.make("list", ()), 0)
            told(heap.read, 0, 0)
            self.assertEqual(heap.make("list", ()), 1)
            self.assertEqual(heap.number(1), 2)

    def test_equal_calls_give_equal_answers(self):
        for room in ROOMS:
            one, other = Heap(room), Heap(room)
            for heap in (one, other):
                a = heap.make("list", (NIL, NIL))
                heap.write(a, 0, ("held", a))
                heap.turn()
            self.assertEqual(state(one)[:6], state(other)[:6])
            self.assertTrue(told(one.layout) == told(other.layout))


class Holding(EachRoom):
    def test_what_handles_tell(self):
        for heap in self.each():
            a = heap.make("list", (ONE, NIL))
            b = heap.hold(("held", a))
            c = heap.hold(("word", -7))
            d = heap.hold(("held", c))
            e = heap.hold(("word", 29))
            self.assertEqual([heap.item(h) for h in (a, b, c, d, e)], [("held", a), ("held", b), ("word", -7), ("word", -7), ("word", 29)])
            heap.drop(a)
            self.assertEqual(heap.item(b), ("held", b))
            self.assertEqual(heap.sort_of(b), "list")
            heap.drop(c)
            self.assertEqual(heap.item(d), ("word", -7))
            self.assertEqual(heap.meaning(), (((b, ("thing", 1)), (d, ("word", -7)), (e, ("word", 29))), ((1, "list", (ONE, NIL)),)))

    def test_handles_that_are_none(self):
        for heap in self.each():
            a = heap.make("list", (NIL,))
            gone = heap.make("list", (NIL,))
            heap.drop(gone)
            for odd in [*ODD, gone, 2, 3, -1, True, False, 10 ** 39, -10 ** 39, "0", ("held", a), (a,), [a]]:
                if odd == 0 and odd is not False:
                    continue
                for call in (("drop", odd), ("item", odd), ("sort_of", odd), ("size", odd), ("number", odd), ("read", odd, 0),
                             ("write", odd, 0, NIL), ("same", odd, a), ("same", a, odd), ("same", odd, odd)):
                    self.refuse(heap, "NoHandle", *call)
            self.assertIs(heap.drop(a), None)
            self.refuse(heap, "NoHandle", "drop", a)

    def test_handles_without_a_thing(self):
        for heap in self.each():
            for word in (1, 9, -7, 2, 10, 3, 4, 68, 5, 29, 8 * 2 ** 59 - 7, -8 * 2 ** 59 + 1):
                h = heap.hold(("word", word))
                for call in (("sort_of", h), ("size", h), ("number", h), ("read", h, 0), ("write", h, 0, NIL)):
                    self.refuse(heap, "NoThing", *call)
                self.assertIs(heap.same(h, h), True)
                self.assertEqual(heap.item(h), ("word", word))

    def test_errors_in_their_order(self):
        for heap in self.each():
            word = heap.hold(NIL)
            thing = heap.make("list", (NIL,))
            for place in (0, 1, None):
                for item in (NIL, None):
                    self.refuse(heap, "NoHandle", "write", 9, place, item)
                    self.refuse(heap, "NoThing", "write", word, place, item)
            self.refuse(heap, "NoPlace", "write", thing, 1, None)
            self.refuse(heap, "NoItems", "write", thing, 0, None)
            self.refuse(heap, "NoHandle", "read", None, None)
            self.refuse(heap, "NoThing", "read", word, None)
            self.refuse(heap, "NoPlace", "read", thing, None)
            self.refuse(heap, "NoSort", "make", "lists", None)
            self.refuse(heap, "NoHandle", "same", word, None)

    def test_items_ahead_of_room(self):
        heap = Heap(Room(8, 8, 0))
        self.assertEqual(told(heap.make, "lists", (NIL,) * 9), ("NoSort",))
        self.assertEqual(told(heap.make, "text", (NIL,) * 9), ("NoItems",))
        self.assertEqual(told(heap.make, "cell", (NIL,) * 9), ("NoItems",))
        self.assertEqual(told(heap.make, "list", (NIL,) * 9), ("HeapFull", 11))

    def test_same(self):
        for heap in self.each():
            a = heap.make("list", (ONE,))
            b = heap.make("list", (ONE,))
            c = heap.hold(("held", a))
            words = [heap.hold(("word", word)) for word in (1, 9, 3, 2, 10, 4, 5, -7)]
            for _ in range(2):
                self.assertIs(heap.same(a, a), True)
                self.assertIs(heap.same(a, c), True)
                self.assertIs(heap.same(a, b), False)
                for one in words:
                    self.assertIs(heap.same(one, a), False)
                    for other in words:
                        self.assertIs(heap.same(one, other), one == other)
                self.assertIs(heap.same(words[0], heap.hold(("word", 1))), True)
                heap.turn()
            heap.whole()
            self.assertIs(heap.same(a, c), True)
            held = heap.make("list", (("held", b),))
            self.assertIs(heap.same(heap.read(held, 0), b), True)


class ReadingAndWriting(EachRoom):
    def test_read(self):
        for heap in self.each():
            a = heap.make("list", (ONE, NIL))
            b = heap.make("list", (("held", a), ("word", 17), ("held", a)))
            heap.drop(a)
            x, y, z = heap.read(b, 0), heap.read(b, 1), heap.read(b, 2)
            self.assertEqual([x, y, z], [2, 3, 4])
            self.assertEqual(heap.item(y), ("word", 17))
            self.assertIs(heap.same(x, z), True)
            self.assertEqual(heap.number(x), 1)
            self.refuse(heap, "NoThing", "read", y, 0)
            t = heap.make("text", signs("ab"))
            self.assertEqual(heap.item(heap.read(t, 1)), ("word", 8 * 98 + 1))
            o = heap.make("object", (ONE, NIL))
            self.assertEqual(heap.item(heap.read(o, 0)), ONE)

    def test_places_that_are_none(self):
        for heap in self.each():
            for sort, items in (("list", (NIL, NIL)), ("list", ()), ("text", ()), ("text", signs("abc")), ("cell", (NIL,)), ("tie", (NIL,)),
                                ("object", (ONE,)), ("function", (ONE, NIL))):
                h = heap.make(sort, items)
                for place in [len(items), len(items) + 1, -1, -len(items) - 1, 10 ** 39, True, False, *[odd for odd in ODD if odd != 0 or odd is False]]:
                    self.refuse(heap, "NoPlace", "read", h, place)
                    self.refuse(heap, "NoPlace", "write", h, place, NIL)

    def test_write(self):
        for heap in self.each():
            a = heap.make("list", ())
            w = heap.hold(("word", -7))
            for sort, items, writes in (
                ("text", signs("ab"), ((0, signs("c")[0]), (1, signs(" ")[0]), (1, signs("~")[0]))),
                ("list", (NIL, NIL), ((0, ("held", a)), (1, ONE), (1, ("held", w)), (0, NIL))),
                ("object", (ONE, NIL), ((0, ("word", -7)), (0, ("held", w)), (1, ("held", a)), (1, ("word", 2)))),
                ("function", (ONE, NIL), ((0, ("word", 1)), (0, ("held", w)), (1, ("held", a)), (1, ("word", 2)))),
                ("cell", (NIL,), ((0, ("held", a)), (0, ONE), (0, ("held", w)))),
                ("tie", (NIL,), ((0, ("held", a)), (0, NIL), (0, ("held", a)))),
            ):
                h = heap.make(sort, items)
                inner = list(items)
                for place, item in writes:
                    self.assertIs(heap.write(h, place, item), None)
                    inner[place] = ("thing", 1) if item == ("held", a) else ("word", -7) if item == ("held", w) else item
                    self.assertEqual([row for row in heap.meaning()[1] if row[0] == heap.number(h)], [(heap.number(h), sort, tuple(inner))])

    def test_write_of_what_may_not_stand_there(self):
        for heap in self.each():
            a = heap.make("list", ())
            nil = heap.hold(NIL)
            for sort, items, place, wrong in (
                ("text", signs("ab"), 1, (("held", a), NIL, ("held", nil), ONE, ("word", 8 * 37 + 1), ("word", 8 * 31 + 1), ("word", 8 * 127 + 1))),
                ("object", (ONE, NIL), 0, (("held", a), NIL, ("held", nil), ("word", 2), ("word", 5))),
                ("function", (ONE, NIL), 0, (("held", a), NIL, ("held", nil), ("word", 2), ("word", 5))),
                ("tie", (NIL,), 0, (ONE, ("word", 2), ("word", 5), ("word", 4))),
            ):
                h = heap.make(sort, items)
                for item in wrong:
                    self.refuse(heap, "NoItems", "write", h, place, item)

    def test_a_thing_that_holds_itself(self):
        for heap in self.each():
            a = heap.make("list", (NIL,))
            heap.write(a, 0, ("held", a))
            b = heap.read(a, 0)
            self.assertIs(heap.same(a, b), True)
            heap.drop(a)
            heap.drop(b)
            self.assertEqual(heap.meaning(), ((), ()))
            self.assertEqual(heap.living(), ())

    def test_written_amid_a_turn(self):
        for heap in self.each():
            a = heap.make("list", (NIL, NIL))
            b = heap.make("list", (("held", a),))
            heap.turn()
            c = heap.make("list", (("held", b),))
            heap.write(a, 0, ("held", c))
            heap.write(a, 1, ("held", heap.read(heap.read(c, 0), 0)))
            self.assertEqual(heap.meaning()[1], ((1, "list", (("thing", 3), ("thing", 1))), (2, "list", (("thing", 1),)), (3, "list", (("thing", 2),))))


class Living(EachRoom):
    def test_the_empty_heap(self):
        for heap in self.each():
            self.assertEqual((heap.meaning(), heap.living(), heap.reached(), heap.filled(), heap.image()), (((), ()), (), (), 0, "last 0\n"))
            self.assertEqual(heap.sweep(), ())
            for number in (0, 1, -1):
                self.assertEqual(told(heap.way, number), ("NoNumber",))
                self.assertEqual(told(heap.holders, number), ("NoNumber",))

    def test_what_lives_through_ties(self):
        for heap in self.each():
            a = heap.make("list", ())
            t = heap.make("tie", (("held", a),))
            s = heap.make("tie", (("held", t),))
            heap.drop(a)
            heap.drop(t)
            self.assertEqual((heap.living(), heap.reached(), heap.filled()), ((1, 2, 3), (3,), 8))
            self.assertEqual(heap.way(1), (s, 0, 0))
            heap.write(s, 0, NIL)
            self.assertEqual((heap.living(), heap.reached(), heap.filled()), ((3,), (3,), 3))

    def test_rings(self):
        for heap in self.each():
            a = heap.make("list", (NIL,))
            b = heap.make("list", (("held", a),))
            c = heap.make("list", (("held", b),))
            heap.write(a, 0, ("held", c))
            heap.drop(a)
            heap.drop(b)
            self.assertEqual(heap.living(), (1, 2, 3))
            self.assertEqual([heap.way(n) for n in (1, 2, 3)], [(c, 0, 0), (c, 0), (c,)])
            self.assertEqual([heap.holders(n) for n in (1, 2, 3)], [[(2, 0)], [(3, 0)], [(0, c), (1, 0)]])
            heap.drop(c)
            self.assertEqual(heap.living(), ())
            self.assertEqual([heap.way(n) for n in (1, 2, 3)], [None] * 3)
            self.assertEqual([heap.holders(n) for n in (1, 2, 3)], [[]] * 3)

    def test_a_chain_of_thousands(self):
        for room in (None, Room(8, 30000, 1), Room(1000, 40000, 0)):
            heap = Heap(room)
            ahead = heap.make("list", (NIL,))
            for at in range(6000):
                h = heap.make("list" if at % 2 else "tie", (("held", ahead),))
                heap.drop(ahead)
                ahead = h
            self.assertEqual(len(heap.living()), 6001)
            self.assertEqual(heap.filled(), 18003)
            self.assertEqual(heap.way(1), (ahead,) + (0,) * 6000)
            self.assertEqual(len(heap.meaning()[1]), 6001)
            self.assertEqual(heap.holders(1), [(2, 0)])
            heap.turn()
            self.assertEqual(heap.whole(), 0 if room is None else 18003)
            if room is not None:
                self.assertIsInstance(heap.layout(), Layout)
            # The last thing is a list with a tie, and what this has is reached by nothing else.
            self.assertEqual(heap.reached(), (6000, 6001))
            self.assertEqual(heap.sweep(), (6000,))
            self.assertEqual(heap.living(), (6000, 6001))
            h = heap.make("tie", (("held", ahead),))
            heap.drop(ahead)
            self.assertEqual(heap.sweep(), (6002,))
            self.assertEqual(heap.living(), (6002,))
            self.assertEqual(h, ahead + 1)

    def test_ways_the_shortest_first_then_the_least(self):
        for heap in self.each():
            deep = heap.make("list", ())
            one = heap.make("list", (NIL, ("held", deep)))
            two = heap.make("list", (("held", deep), ("held", deep)))
            far = heap.make("list", (("held", two), ("held", one)))
            for h in (deep, one, two):
                heap.drop(h)
            self.assertEqual([heap.way(n) for n in (1, 2, 3, 4)], [(far, 0, 0), (far, 1), (far, 0), (far,)])
            again = heap.read(far, 1)
            self.assertEqual([heap.way(n) for n in (1, 2, 3, 4)], [(again, 1), (again,), (far, 0), (far,)])
            self.assertEqual(heap.holders(1), [(2, 1), (3, 0), (3, 1)])
            self.assertEqual(heap.holders(2), [(0, again), (4, 1)])
            heap.hold(("held", again))
            self.assertEqual(heap.way(2), (again,))
            self.assertEqual(heap.holders(2), [(0, again), (0, again + 1), (4, 1)])

    def test_numbers_that_are_none(self):
        for heap in self.each():
            heap.make("list", ())
            heap.drop(heap.make("list", ()))
            for odd in [*ODD, 0, -1, 3, True, False, 10 ** 39, "1", (1,)]:
                for word in ("way", "holders"):
                    self.refuse(heap, "NoNumber", word, odd)
            self.assertEqual((heap.way(1), heap.way(2)), ((0,), None))
            self.assertEqual((heap.holders(1), heap.holders(2)), ([(0, 0)], []))
            for odd in [*[odd for odd in ODD if odd != 0 or odd is False], -1, 10 ** 9 + 1, 10 ** 39, True, False, "1", (1,)]:
                self.refuse(heap, "NoNumber", "steps", odd)

    def test_lists_returned_are_new(self):
        for heap in self.each():
            heap.make("list", ())
            heap.holders(1).append(5)
            self.assertEqual(heap.holders(1), [(0, 0)])


if __name__ == "__main__":
    unittest.main()
