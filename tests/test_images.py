"""[13.1] heap.image() and restored(text, room)."""

import unittest

from tests.told import NO_STRINGS, nested, nested_dict, nested_list, told
from unseenheap.heaps import Heap
from unseenheap.images import restored
from unseenheap.layouts import broken
from unseenheap.rooms import Room

NIL = ("word", 3)
ONE = ("word", 9)
ROOMS = [None, Room(8, 2000, 1), Room(2000, 2000, 0), Room(100, 3000, 3)]


def held(handle):
    return ("held", handle)


def line_of(text, room=None):
    """The line that restored tells to be bad, or None."""
    found = told(restored, text, room)
    if isinstance(found, tuple) and found[0] == "BadImage":
        return found[1]
    return None if isinstance(found, Heap) else found


class Written(unittest.TestCase):
    def test_each_sort(self):
        for room in ROOMS:
            heap = Heap(room)
            a = heap.make("text", tuple(("word", 8 * ord(sign) + 1) for sign in "a b"))
            b = heap.make("list", (held(a), NIL, ONE, ("word", 10), ("word", 2), ("word", 29), ("word", 68), ("word", -7)))
            c = heap.make("object", (("word", 1), held(b)))
            d = heap.make("function", (("word", -7), held(c)))
            e = heap.make("cell", (held(d),))
            f = heap.make("tie", (held(e),))
            g = heap.make("list", ())
            h = heap.make("text", ())
            i = heap.make("tie", (NIL,))
            heap.hold(("word", 8 * 2 ** 59 - 7))
            heap.hold(("word", -8 * 2 ** 59 + 1))
            heap.hold(held(b))
            for handle in (a, c, d, e):
                heap.drop(handle)
            text = (
                "last 9\nhold 1 t2\nhold 5 t6\nhold 6 t7\nhold 7 t8\nhold 8 t9\nhold 9 w4611686018427387897\nhold 10 w-4611686018427387903\nhold 11 t2\n"
                "thing 1 text w777 w257 w785\nthing 2 list t1 w3 w9 w10 w2 w29 w68 w-7\nthing 3 object w1 t2\nthing 4 function w-7 t3\n"
                "thing 5 cell t4\nthing 6 tie t5\nthing 7 list\nthing 8 text\nthing 9 tie w3\n"
            )
            self.assertEqual(heap.image(), text)
            heap.turn()
            self.assertEqual(heap.image(), text)
            self.assertEqual([f, g, h, i], [5, 6, 7, 8])
            for other in ROOMS:
                again = restored(text, other)
                self.assertEqual(again.image(), text)
                self.assertEqual(again.meaning(), heap.meaning())
                self.assertEqual(again.counts(), (0, 0, 0, 0, 0))
                if other is not None:
                    self.assertEqual(broken(again.layout()), ())

    def test_the_empty_heap(self):
        for room in ROOMS:
            heap = Heap(room)
            self.assertEqual(heap.image(), "last 0\n")
            heap.drop(heap.make("list", ()))
            self.assertEqual(heap.image(), "last 1\n")
            self.assertEqual(restored("last 0\n", room).meaning(), ((), ()))
            self.assertEqual(restored("last 0\n", room).make("list", ()), 0)

    def test_dead_things_are_left_out(self):
        heap = Heap(Room(8, 100, 0))
        a = heap.make("list", ())
        b = heap.make("list", (held(a),))
        heap.write(b, 0, NIL)
        heap.drop(a)
        self.assertEqual(heap.image(), "last 2\nhold 1 t2\nthing 2 list w3\n")


class GoingOn(unittest.TestCase):
    def test_new_handles_and_numbers(self):
        for room in ROOMS:
            for text, handle, number in (("last 0\n", 0, 1), ("last 7\n", 0, 8), ("last 7\nhold 4 w3\n", 5, 8), ("last 7\nhold 0 w3\nhold 9 t2\nthing 2 list\n", 10, 8),
                                         ("last 1000000000000000000000000\n", 0, 10 ** 24 + 1)):
                heap = restored(text, room)
                self.assertEqual(heap.make("list", ()), handle)
                self.assertEqual(heap.number(handle), number)
                self.assertEqual(heap.hold(NIL), handle + 1)

    def test_what_is_done_then(self):
        text = "last 5\nhold 2 t4\nhold 3 t5\nthing 1 list w3\nthing 3 cell t4\nthing 4 list t3 t1 w9\nthing 5 tie t1\n"
        for room in ROOMS:
            heap = restored(text, room)
            self.assertEqual(heap.way(1), (2, 1))
            self.assertEqual(heap.holders(1), [(4, 1), (5, 0)])
            heap.write(2, 1, NIL)
            self.assertEqual(heap.sweep(), (5,))
            self.assertEqual(heap.living(), (3, 4, 5))
            self.assertEqual(told(heap.way, 6), ("NoNumber",))
            self.assertEqual(heap.way(2), None)
            heap.turn()
            self.assertEqual(heap.read(2, 0), 4)
            self.assertEqual(heap.sort_of(4), "cell")

    def test_a_restored_heap_lies_in_the_half_in_use(self):
        heap = restored("last 5\nhold 2 t4\nthing 1 list w3\nthing 4 list t4 t1\n", Room(8, 20, 1))
        layout = heap.layout()
        self.assertEqual((layout.use, layout.top, layout.left, layout.remembered, layout.last), (0, 0, 0, (), 5))
        self.assertEqual(heap.whole(), 7)


class Filled(unittest.TestCase):
    def test_a_room_that_just_holds_it_and_one_word_less(self):
        text = "last 2\nhold 0 t1\nthing 1 list t2 w3 w3 w3 w3\nthing 2 list w3 w3 w3\n"
        self.assertEqual(restored(text, Room(8, 12, 0)).filled(), 12)
        self.assertEqual(restored(text, Room(12, 12, 0)).filled(), 12)
        self.assertEqual(told(restored, text, Room(8, 11, 0)), ("HeapFull", 12))
        self.assertEqual(told(restored, text, Room(8, 8, 0)), ("HeapFull", 12))
        self.assertEqual(restored(text, None).filled(), 12)
        heap = restored(text, Room(8, 12, 0))
        self.assertEqual(told(heap.make, "list", ()), ("HeapFull", 2))
        heap.write(0, 0, NIL)
        self.assertEqual(heap.make("list", nils(3)), 1)


def nils(many):
    return (NIL,) * many


class Wrong(unittest.TestCase):
    def test_order_of_errors(self):
        full = "last 1\nhold 0 t1\nthing 1 list w3 w3 w3 w3 w3 w3 w3\n"
        room = Room(8, 8, 0)
        odd_rooms = [odd for odd in NO_STRINGS if odd is not None] + ["", (8, 8, 0)]
        for odd in [*NO_STRINGS, nested(250), nested_list(250), nested_dict(250), room]:
            for other in (None, room, 5, "x"):
                self.assertEqual(told(restored, odd, other), ("NoText",), repr(odd)[:50])
        for odd in odd_rooms:
            self.assertEqual(told(restored, "x", odd), ("NoRoom",), repr(odd)[:50])
            self.assertEqual(told(restored, full, odd), ("NoRoom",))
        self.assertEqual(told(restored, full + "x", room), ("BadImage", 4))
        self.assertEqual(told(restored, full, room), ("HeapFull", 9))
        self.assertEqual(told(restored, full.replace("t1", "t2"), room), ("BadImage", 2))

    def test_texts_without_their_end(self):
        self.assertEqual(line_of(""), 1)
        self.assertEqual(line_of("\n"), 1)
        self.assertEqual(line_of("last 0"), 1)
        self.assertEqual(line_of("last 0\n"), None)
        self.assertEqual(line_of("last 0\n\n"), 2)
        self.assertEqual(line_of("last 0\n "), 2)
        self.assertEqual(line_of("last 1\nhold 0 t1\nthing 1 list"), 3)
        self.assertEqual(line_of("last 1\nhold 0 t1\nthing 1 list\nx"), 4)
        self.assertEqual(line_of("last 1\nhold 0 t1\nthing 1 list\n\n\n"), 4)
        self.assertEqual(line_of("last 1\nhold 0 t2\nthing 1 list"), 3)
        self.assertEqual(line_of("last 1\nhold 0 t2\n"), 2)

    def test_the_first_line(self):
        for text in ("last", "last ", "last -1", "last x", "last 01", "last  1", " last 1", "last 1 ", "last 1 2", "Last 1", "hold 0 w3", "thing 1 list", "last +1",
                     "last 1_0", "last -0", "last " + "1" * 26, "last 1.0", "lasts 1", "1"):
            self.assertEqual(line_of(text + "\n"), 1, text)
        for text in ("last 0", "last 10", "last " + "9" * 25):
            self.assertEqual(line_of(text + "\n"), None, text)
        self.assertEqual(line_of("last 1\nlast 1\n"), 2)

    def test_lines_of_handles(self):
        for line in ("hold", "hold 0", "hold w3", "hold 0 3", "hold 0 w3 w3", "hold  0 w3", "hold 0  w3", "hold 0 w3 ", " hold 0 w3", "hold 00 w3", "hold -1 w3",
                     "hold -0 w3", "hold 0 w", "hold 0 t", "hold 0 W3", "hold 0 T1", "hold 0 w03", "hold 0 w-", "hold 0 w--7", "hold 0 w-0", "hold 0 w+3", "hold 0 t-1",
                     "hold 0 t01", "hold 0 t+1", "hold 0 t1x", "hold 0 w3x", "Hold 0 w3", "holds 0 w3", "hold 0 w 3", "hold x w3", "hold " + "1" * 26 + " w3",
                     "hold 0 w" + "1" * 26, "hold 0 t" + "1" * 26, "hold 0 tt1", "hold 0 wt", "hold 0 w1-", "hold 0 w\t3"):
            self.assertEqual(line_of("last 1\n" + line + "\nthing 1 list\n"), 2, line)
        for line in ("hold 0 t1", "hold 5 t1", "hold " + "9" * 25 + " t1"):
            self.assertEqual(line_of("last 1\n" + line + "\nthing 1 list\n"), None, line)
        # 25 figures of a thread's word; one figure more.
        self.assertEqual(line_of("last 0\nhold 0 w1000000000000000000000005\n"), None)
        self.assertEqual(line_of("last 0\nhold 0 w10000000000000000000000005\n"), 2)
        self.assertEqual(line_of("last 0\nhold 0 w-10000000000000000000000007\n"), 2)

    def test_words_that_are_none_or_things(self):
        for word in ("0", "8", "16", "6", "7", "-8", "-1", "-2", "-3", "11", "18", "76", str(8 * 2 ** 59 + 1), str(-8 * 2 ** 59 - 7), "800"):
            self.assertEqual(line_of(f"last 1\nhold 0 w{word}\nhold 1 t1\nthing 1 list\n"), 2, word)
            self.assertEqual(line_of(f"last 1\nhold 1 t1\nthing 1 list w3 w{word}\n"), 3, word)
        for word in ("1", "-7", "2", "10", "3", "4", "68", "5", "29", str(8 * 2 ** 59 - 7), str(-8 * 2 ** 59 + 1)):
            self.assertEqual(line_of(f"last 1\nhold 0 w{word}\nhold 1 t1\nthing 1 list w{word}\n"), None, word)

    def test_lines_of_things(self):
        for line in ("thing", "thing 1", "thing list", "thing 1 lists", "thing 1 List", "thing 1 list ", "thing  1 list", "thing 1  list", " thing 1 list", "thing 01 list",
                     "thing -1 list", "thing 0 list", "thing 2 list", "thing 1 list 3", "thing 1 list w3  w3", "thing 1 list w3 ", "things 1 list", "thing 1 1",
                     "thing 1 list w3 x", "thing 1 list t", "thing " + "1" * 26 + " list", "thing 1 ", "thing 1 w3", "thing 1 list w03"):
            self.assertEqual(line_of("last 1\nhold 0 t1\n" + line + "\n"), 3, line)

    def test_what_may_stand_in_each_sort(self):
        for line in ("text w3", "text t1", "text w777 w297", "text w249", "text w1017", "text w521 w2", "object", "object t1", "object w3", "object w2 w9", "function",
                     "function t1", "function w3", "function w5", "cell", "cell w3 w3", "cell t1 t1", "tie", "tie w9", "tie w3 w3", "tie w2", "tie t1 t1", "tie w5"):
            self.assertEqual(line_of(f"last 1\nhold 0 t1\nthing 1 {line}\n"), 3, line)
        for line in ("text", "text w257 w1009 w289 w305", "object w1", "object w-7 t1 w3", "function w9", "function w9 t1", "cell w3", "cell t1", "tie w3", "tie t1", "list",
                     "list t1 t1 w3"):
            self.assertEqual(line_of(f"last 1\nhold 0 t1\nthing 1 {line}\n"), None, line)

    def test_lines_in_a_wrong_order(self):
        self.assertEqual(line_of("hold 0 w3\nlast 0\n"), 1)
        self.assertEqual(line_of("last 1\nthing 1 list\nhold 0 t1\n"), 3)
        self.assertEqual(line_of("last 2\nhold 0 t1\nthing 1 list t2\nhold 1 w3\nthing 2 list\n"), 4)
        self.assertEqual(line_of("last 2\nhold 1 t1\nhold 0 t2\nthing 1 list\nthing 2 list\n"), 3)
        self.assertEqual(line_of("last 2\nhold 0 t1\nhold 0 t2\nthing 1 list\nthing 2 list\n"), 3)
        self.assertEqual(line_of("last 2\nhold 0 t1\nhold 1 t2\nthing 2 list\nthing 1 list\n"), 5)
        self.assertEqual(line_of("last 2\nhold 0 t1\nhold 1 t2\nthing 2 list\nthing 2 list\n"), 5)
        self.assertEqual(line_of("last 2\nhold 0 t3\nthing 3 list\n"), 3)
        self.assertEqual(line_of("last 3\nhold 0 t3\nthing 3 list\n"), None)

    def test_things_that_are_not_there(self):
        self.assertEqual(line_of("last 2\nhold 0 t1\n"), 2)
        self.assertEqual(line_of("last 2\nhold 0 t0\n"), 2)
        self.assertEqual(line_of("last 2\nhold 0 t9\n"), 2)
        self.assertEqual(line_of("last 2\nhold 0 w3\nhold 1 t2\n"), 3)
        self.assertEqual(line_of("last 2\nhold 0 t1\nthing 1 list w3 t2\n"), 3)
        self.assertEqual(line_of("last 3\nhold 0 t1\nthing 1 list t3\nthing 3 list t2\n"), 4)
        self.assertEqual(line_of("last 3\nhold 0 t1\nhold 1 t2\nthing 1 list t3\nthing 3 list\n"), 3)

    def test_things_that_do_not_live(self):
        self.assertEqual(line_of("last 1\nthing 1 list\n"), 2)
        self.assertEqual(line_of("last 2\nhold 0 t1\nthing 1 list\nthing 2 list\n"), 4)
        self.assertEqual(line_of("last 3\nhold 0 t3\nthing 1 list t2\nthing 2 list t1\nthing 3 list\n"), 3)
        self.assertEqual(line_of("last 3\nhold 0 t3\nthing 1 list t2\nthing 2 list t1\nthing 3 tie t2\n"), None)
        # The first line of both kinds.
        self.assertEqual(line_of("last 3\nhold 0 t2\nthing 1 list\nthing 2 list t3\n"), 3)
        self.assertEqual(line_of("last 3\nhold 0 t1\nthing 1 list t3\nthing 2 list\n"), 3)

    def test_both_faults_at_once(self):
        self.assertEqual(line_of("last 3\nhold 0 t2\nthing 1 list\nthing 3 lists\n"), 4)
        self.assertEqual(line_of("last 3\nthing 1 list\nthing 3 list w0\n"), 3)
        self.assertEqual(line_of("last 3\nhold 0 t9\nthing 1 list"), 3)
        self.assertEqual(line_of("last 3\nhold 0 t9\nthing 4 list\n"), 3)
        for word in ("t01", "t", "t-1", "tx", "w03", "w", "x", "t" + "1" * 26):
            self.assertEqual(line_of(f"last 3\nhold 0 t9\nhold 1 {word}\n"), 3)

    def test_a_bad_image_ahead_of_a_full_heap(self):
        text = "last 1\nhold 0 t1\nthing 1 list w3 w3 w3 w3 w3 w3 w3\n"
        self.assertEqual(line_of(text + "thing 2 list\n", Room(8, 8, 0)), 4)
        self.assertEqual(line_of(text.replace("last 1", "last 2") + "thing 2 list\n", Room(8, 8, 0)), 4)

    def test_a_very_long_chain(self):
        many = 900
        lines = [f"last {many}", "hold 0 t1"] + [f"thing {at} list t{at + 1}" for at in range(1, many)] + [f"thing {many} list"]
        text = "".join(line + "\n" for line in lines)
        for room in ROOMS:
            if room is None or room.old >= 3 * many:
                heap = restored(text, room)
                self.assertEqual(heap.image(), text)
        heap = restored(text, None)
        for at in range(20000):
            heap.make("list", (held(at),))
        self.assertEqual(restored(heap.image(), None).meaning(), heap.meaning())


if __name__ == "__main__":
    unittest.main()
