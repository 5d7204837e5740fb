"""[11.5] to [11.10] rooms, deeds of the collector, barriers and counts: heaps worked out by hand."""

import unittest

from tests.told import told
from unseenheap.heaps import Heap
from unseenheap.layouts import Layout, broken, meaning_of
from unseenheap.rooms import Room

NIL = ("word", 3)
ONE = ("word", 9)
TEXT, LIST, OBJECT, FUNCTION, CELL, TIE = range(6)


def held(handle):
    return ("held", handle)


def parts(heap):
    """(use, free, scan, top, left, copied, remembered, roots, last) of a heap's layout."""
    layout = heap.layout()
    assert broken(layout) == ()
    return (layout.use, layout.free, layout.scan, layout.top, layout.left, layout.copied, layout.remembered, layout.roots, layout.last)


def at(heap, begin, end):
    return heap.layout().words[begin:end]


def nils(many):
    return (NIL,) * many


class Lying(unittest.TestCase):
    def test_the_empty_heap(self):
        heap = Heap(Room(8, 20, 1))
        self.assertEqual(parts(heap), (0, 8, 8, 0, 0, 0, (), (), 0))
        self.assertEqual(len(heap.layout().words), 48)
        self.assertEqual(heap.counts(), (0, 0, 0, 0, 0))

    def test_an_endless_heap_has_no_layout_and_counts_nothing(self):
        heap = Heap(None)
        a = heap.make("list", ())
        self.assertEqual([heap.gather(), heap.turn(), heap.steps(5), heap.whole()], [0, 0, 0, 0])
        heap.sweep()
        self.assertEqual(told(heap.layout), ("NoRoom",))
        self.assertEqual(heap.counts(), (0, 0, 0, 0, 0))
        self.assertEqual(heap.number(a), 1)
        self.assertEqual(told(heap.steps, True), ("NoNumber",))
        self.assertEqual(told(heap.steps, 10 ** 9 + 1), ("NoNumber",))
        self.assertEqual(heap.steps(10 ** 9), 0)

    def test_things_lie_in_the_nursery(self):
        heap = Heap(Room(20, 40, 0))
        a = heap.make("text", (("word", 521), ("word", 529)))
        b = heap.make("list", (held(a), NIL, held(a)))
        heap.make("tie", (held(b),))
        self.assertEqual(at(heap, 0, 12), (16 + TEXT, 1, 521, 529, 24 + LIST, 2, 0, 3, 0, 8 + TIE, 3, 32))
        self.assertEqual(parts(heap), (0, 20, 20, 12, 0, 0, (), ((0, 0), (1, 32), (2, 72)), 3))

    def test_what_takes_just_the_nursery_and_what_takes_more(self):
        heap = Heap(Room(8, 40, 0))
        heap.make("list", nils(6))
        self.assertEqual(parts(heap)[:4], (0, 8, 8, 8))
        heap.make("list", nils(7))
        self.assertEqual(parts(heap)[:4], (0, 17, 17, 8))
        self.assertEqual(at(heap, 8, 17), (56 + LIST, 2) + (3,) * 7)
        self.assertEqual(heap.counts(), (0, 0, 0, 0, 0))
        # A small one finds no room in the nursery: gather is done first.
        heap.make("list", ())
        self.assertEqual(parts(heap)[:4], (0, 25, 25, 2))
        self.assertEqual(at(heap, 17, 19), (48 + LIST, 1))
        self.assertEqual(heap.counts(), (1, 0, 0, 0, 0))

    def test_room_left_for_it_just_so(self):
        heap = Heap(Room(8, 40, 0))
        heap.make("list", nils(2))
        heap.make("list", nils(2))
        self.assertEqual(heap.counts(), (0, 0, 0, 0, 0))
        self.assertEqual(parts(heap)[:4], (0, 8, 8, 8))
        heap.make("list", ())
        self.assertEqual(heap.counts(), (1, 0, 0, 0, 0))
        self.assertEqual(parts(heap)[:4], (0, 16, 16, 2))

    def test_a_great_thing_made_with_nursery_things(self):
        heap = Heap(Room(8, 60, 0))
        a = heap.make("list", ())
        b = heap.make("cell", (held(a),))
        heap.make("list", (held(a), NIL, held(b), held(a), NIL, NIL, ONE))
        self.assertEqual(parts(heap), (0, 17, 17, 5, 0, 0, (10, 12, 13), ((0, 0), (1, 16), (2, 64)), 3))
        self.assertEqual(at(heap, 8, 17), (56 + LIST, 3, 0, 3, 16, 0, 3, 3, 9))
        self.assertEqual(heap.gather(), 2)
        self.assertEqual(parts(heap), (0, 22, 22, 0, 0, 0, (), ((0, 136), (1, 152), (2, 64)), 3))
        self.assertEqual(at(heap, 8, 22), (56 + LIST, 3, 136, 3, 152, 136, 3, 3, 9, LIST, 1, 8 + CELL, 2, 136))


class Gathering(unittest.TestCase):
    def test_the_order_of_copying(self):
        """Handles ascending, then remembered places as they were remembered, then things as they lie."""
        heap = Heap(Room(60, 200, 0))
        old = heap.make("list", nils(3))
        self.assertEqual(heap.gather(), 1)
        a = heap.make("list", ())          # 2: held by 6's word alone
        b = heap.make("list", ())          # 3: held by old's place 2
        c = heap.make("list", ())          # 4: held by old's place 0
        d = heap.make("list", (held(a),))  # 5: held by its handle
        e = heap.make("list", (held(a),))  # 6: held by old's place 1
        f = heap.make("list", ())          # 7: held by its handle
        heap.write(old, 2, held(b))
        heap.write(old, 0, held(c))
        heap.write(old, 1, held(e))
        g = heap.make("list", (NIL,))      # 8: held by nothing
        for handle in (a, b, c, e, g):
            heap.drop(handle)
        self.assertEqual(parts(heap)[6], (64, 62, 63))
        self.assertEqual(heap.gather(), 6)
        layout = heap.layout()
        self.assertEqual(layout.words[60:79], (
            24 + LIST, 1, 8 * 72, 8 * 74, 8 * 70, 8 + LIST, 5, 8 * 77, LIST, 7, LIST, 3, LIST, 4, 8 + LIST, 6, 8 * 77, LIST, 2))
        self.assertEqual(parts(heap), (0, 79, 79, 0, 0, 0, (), ((old, 480), (d, 8 * 65), (f, 8 * 68)), 8))
        self.assertEqual(heap.counts(), (2, 0, 0, 0, 0))

    def test_what_a_dead_thing_remembers_is_copied_too(self):
        heap = Heap(Room(20, 60, 0))
        old = heap.make("list", (NIL,))
        heap.gather()
        a = heap.make("list", ())
        heap.write(old, 0, held(a))
        heap.drop(a)
        heap.drop(old)
        self.assertEqual(heap.living(), ())
        self.assertEqual(heap.gather(), 1)
        self.assertEqual(heap.whole(), 0)

    def test_the_empty_nursery(self):
        heap = Heap(Room(8, 20, 0))
        self.assertEqual(heap.gather(), 0)
        self.assertEqual(heap.counts(), (1, 0, 0, 0, 0))

    def test_what_leads_to_elder_things_is_let_be(self):
        heap = Heap(Room(20, 60, 0))
        a = heap.make("list", ())
        heap.gather()
        heap.make("list", (held(a),))
        self.assertEqual(heap.gather(), 1)
        self.assertEqual(at(heap, 20, 25), (LIST, 1, 8 + LIST, 2, 160))


class Writing(unittest.TestCase):
    def test_remembered_places(self):
        heap = Heap(Room(20, 60, 0))
        old = heap.make("list", nils(3))
        heap.gather()
        a = heap.make("list", ())
        b = heap.make("list", ())
        self.assertEqual(parts(heap)[6], ())
        heap.write(old, 1, held(a))
        self.assertEqual(parts(heap)[6], (23,))
        heap.write(old, 1, held(a))
        self.assertEqual(parts(heap)[6], (23,))
        heap.write(old, 0, held(b))
        heap.write(old, 1, held(b))
        self.assertEqual(parts(heap)[6], (23, 22))
        # What is no nursery thing is not remembered, and lets nothing be forgotten.
        heap.write(old, 2, held(old))
        heap.write(old, 1, ONE)
        self.assertEqual(parts(heap)[6], (23, 22))
        c = heap.make("list", (held(a),))
        heap.write(c, 0, held(b))
        self.assertEqual(parts(heap)[6], (23, 22))
        self.assertEqual(heap.gather(), 3)
        self.assertEqual(parts(heap)[6], ())
        self.assertEqual([row for row in heap.meaning()[1] if row[0] == 1], [(1, "list", (("thing", 3), ONE, ("thing", 1)))])


class Turning(unittest.TestCase):
    def heap(self, pace=0):
        """Things 1, 2, 3 of which 3 holds 1 and 2, 2 holds 1, and a dead one, 4; 3 and 1 are held."""
        heap = Heap(Room(30, 60, pace))
        a = heap.make("list", (ONE,))
        b = heap.make("list", (held(a),))
        c = heap.make("list", (held(b), held(a)))
        heap.make("list", nils(2))
        heap.gather()
        heap.drop(b)
        heap.drop(3)
        self.assertEqual(parts(heap)[:4], (0, 44, 44, 0))
        return heap, a, c

    def test_a_turn_by_its_steps(self):
        heap, a, c = self.heap()
        self.assertEqual(heap.turn(), 1)
        # The things of handles lie in the second half now, from 90 on.
        self.assertEqual(parts(heap), (1, 97, 90, 0, 14, 7, (), ((a, 8 * 90), (c, 8 * 93)), 4))
        self.assertEqual(at(heap, 90, 97), (8 + LIST, 1, 9, 16 + LIST, 3, 8 * 33, 8 * 30))
        self.assertEqual(at(heap, 30, 38), (-91, 1, 9, 8 + LIST, 2, 240, -94, 3))
        self.assertEqual(heap.turn(), 0)
        self.assertEqual(heap.steps(0), 0)
        self.assertEqual(heap.steps(1), 1)
        self.assertEqual(parts(heap)[:6], (1, 97, 93, 0, 14, 7))
        self.assertEqual(heap.steps(1), 1)
        self.assertEqual(parts(heap)[:6], (1, 100, 97, 0, 14, 10))
        self.assertEqual(at(heap, 93, 100), (16 + LIST, 3, 8 * 97, 8 * 90, 8 + LIST, 2, 240))
        self.assertEqual(heap.steps(5), 1)
        self.assertEqual(parts(heap), (1, 100, 100, 0, 0, 0, (), ((a, 8 * 90), (c, 8 * 93)), 4))
        self.assertEqual(at(heap, 97, 100), (8 + LIST, 2, 8 * 90))
        self.assertEqual(heap.steps(5), 0)
        self.assertEqual(heap.counts(), (2, 1, 3, 0, 0))
        self.assertEqual(heap.turn(), 1)
        self.assertEqual(parts(heap)[:3], (0, 37, 30))

    def test_steps_of_more_than_there_is(self):
        for many in (3, 4, 10 ** 9):
            heap, _, _ = self.heap()
            heap.turn()
            self.assertEqual(heap.steps(many), 3)
            self.assertEqual(parts(heap)[:6], (1, 100, 100, 0, 0, 0))

    def test_a_turn_without_anything_to_look_at_has_ended(self):
        heap = Heap(Room(8, 20, 0))
        self.assertEqual(heap.turn(), 1)
        self.assertEqual(parts(heap), (1, 28, 28, 0, 0, 0, (), (), 0))
        self.assertEqual(heap.turn(), 1)
        self.assertEqual(parts(heap)[:3], (0, 8, 8))
        heap.drop(heap.make("list", ()))
        heap.gather()
        heap.hold(ONE)
        self.assertEqual(heap.turn(), 1)
        self.assertEqual(parts(heap)[:6], (1, 28, 28, 0, 0, 0))
        self.assertEqual(heap.steps(1), 0)
        self.assertEqual(heap.counts(), (4, 3, 0, 0, 0))

    def test_a_read_leads_on(self):
        heap, a, c = self.heap()
        heap.turn()
        b = heap.read(c, 0)
        # Thing 2 was copied behind free, and the word that was read leads there.
        self.assertEqual(parts(heap), (1, 100, 90, 0, 14, 10, (), ((a, 720), (c, 744), (b, 8 * 97)), 4))
        self.assertEqual(at(heap, 93, 100), (16 + LIST, 3, 8 * 97, 8 * 30, 8 + LIST, 2, 240))
        again = heap.read(c, 0)
        self.assertIs(heap.same(b, again), True)
        one = heap.read(c, 1)
        self.assertIs(heap.same(a, one), True)
        self.assertEqual(at(heap, 93, 97), (16 + LIST, 3, 8 * 97, 8 * 90))
        self.assertEqual(parts(heap)[:6], (1, 100, 90, 0, 14, 10))

    def test_pace(self):
        for pace, scan in ((0, 90), (1, 93), (2, 97), (3, 100), (1000, 100)):
            heap, a, c = self.heap(pace)
            heap.turn()
            heap.make("list", (held(c), held(a)))
            self.assertEqual(parts(heap)[2:4], (scan, 4), pace)
            self.assertEqual(heap.counts(), (2, 1, min(pace, 3), 0, 0))
            self.assertEqual(parts(heap)[4] == 0, pace >= 3)

    def test_a_great_thing_amid_a_turn(self):
        heap, a, c = self.heap(1)
        heap.turn()
        heap.make("list", (held(c), *nils(29)))
        self.assertEqual(parts(heap)[:6], (1, 129, 93, 0, 14, 7))
        self.assertEqual(heap.steps(10 ** 9), 3)
        self.assertEqual(parts(heap)[:6], (1, 132, 132, 0, 0, 0))

    def test_a_gather_amid_a_turn(self):
        heap, a, c = self.heap()
        heap.turn()
        heap.make("list", (held(c),))
        heap.make("list", ())
        heap.drop(5)
        self.assertEqual(heap.gather(), 1)
        self.assertEqual(parts(heap)[:6], (1, 100, 90, 0, 14, 7))
        self.assertEqual(at(heap, 97, 100), (8 + LIST, 5, 8 * 93))

    def test_whole_amid_a_turn(self):
        heap, a, c = self.heap()
        heap.turn()
        d = heap.make("list", (held(c),))
        self.assertEqual(heap.whole(), 13)
        self.assertEqual(parts(heap), (0, 43, 43, 0, 0, 0, (), ((a, 240), (c, 8 * 33), (d, 8 * 37)), 5))
        self.assertEqual(at(heap, 30, 43), (8 + LIST, 1, 9, 16 + LIST, 3, 8 * 40, 240, 8 + LIST, 5, 8 * 33, 8 + LIST, 2, 240))
        self.assertEqual(heap.counts(), (2, 1, 3, 1, 0))

    def test_whole_forgets_what_was_remembered(self):
        heap = Heap(Room(8, 40, 0))
        a = heap.make("list", (NIL,))
        heap.gather()
        b = heap.make("list", ())
        heap.write(a, 0, held(b))
        self.assertEqual(heap.whole(), 5)
        self.assertEqual(parts(heap), (1, 53, 53, 0, 0, 0, (), ((0, 384), (1, 8 * 51)), 2))
        self.assertEqual(heap.whole(), 5)
        self.assertEqual(parts(heap)[0], 0)


class Full(unittest.TestCase):
    def test_what_just_fills_the_room_and_one_word_more(self):
        for young in (8, 12, 20):
            for takes in (2, 3, 8, 9):
                heap = Heap(Room(young, 20, 1))
                heap.make("list", nils(18 - takes))
                self.assertEqual(heap.make("list", nils(takes - 2)), 1)
                self.assertEqual(heap.filled(), 20)
                before = heap.meaning()
                self.assertEqual(told(heap.make, "list", ()), ("HeapFull", 2))
                self.assertEqual(told(heap.make, "list", nils(50)), ("HeapFull", 52))
                self.assertEqual(heap.meaning(), before)
                self.assertEqual(broken(heap.layout()), ())
                heap.drop(1)
                self.assertEqual(told(heap.make, "list", nils(takes - 1)), ("HeapFull", takes + 1))
                self.assertEqual(heap.make("list", nils(takes - 2)), 2)
                self.assertEqual(heap.number(2), 3)

    def test_full_by_things_that_hold_one_another(self):
        heap = Heap(Room(8, 24, 0))
        a = heap.make("list", (NIL,))
        for _ in range(7):
            b = heap.make("list", (held(a),))
            heap.drop(a)
            a = b
        self.assertEqual(heap.filled(), 24)
        self.assertEqual(told(heap.make, "list", (held(a),)), ("HeapFull", 3))
        heap.write(a, 0, NIL)
        self.assertEqual(heap.filled(), 3)
        heap.make("list", (held(a),))

    def test_a_make_that_ends_a_turn(self):
        heap = Heap(Room(8, 30, 0))
        a = heap.make("list", nils(6))
        heap.drop(heap.make("list", nils(7)))
        heap.make("list", nils(6))
        self.assertEqual(heap.turn(), 1)
        # Taken: 16 words are copied, 9 are to be left behind.
        self.assertEqual(parts(heap)[:6], (1, 54, 38, 0, 25, 16))
        heap.make("list", nils(3))
        self.assertEqual(parts(heap)[4:6], (25, 16))
        self.assertEqual(heap.counts()[1:4], (1, 0, 0))
        # 16, 5 and 9 are 30: one word more ends the turn, which is enough.
        heap.make("list", ())
        self.assertEqual(parts(heap)[4:6], (0, 0))
        self.assertEqual(heap.counts()[1:4], (1, 2, 0))
        self.assertEqual(heap.number(a), 1)

    def test_a_make_that_does_whole(self):
        heap = Heap(Room(8, 30, 0))
        heap.drop(heap.make("list", nils(20)))
        heap.make("list", nils(6))
        self.assertEqual(heap.counts(), (0, 0, 0, 0, 0))
        heap.make("list", ())
        self.assertEqual(heap.counts(), (0, 0, 0, 1, 0))
        self.assertEqual(parts(heap)[:4], (1, 46, 46, 2))

    def test_a_make_that_ends_a_turn_and_does_whole(self):
        heap = Heap(Room(8, 30, 0))
        a = heap.make("list", nils(10))
        heap.drop(heap.make("list", nils(10)))
        heap.turn()
        heap.drop(a)
        self.assertEqual(parts(heap)[:6], (1, 50, 38, 0, 24, 12))
        heap.make("list", nils(20))
        self.assertEqual(heap.counts(), (1, 1, 1, 1, 0))
        self.assertEqual(parts(heap)[:6], (0, 30, 30, 0, 0, 0))

    def test_a_make_that_is_full_does_what_it_does_ahead(self):
        heap = Heap(Room(8, 30, 0))
        heap.make("list", nils(10))
        heap.turn()
        self.assertEqual(told(heap.make, "list", nils(17)), ("HeapFull", 19))
        self.assertEqual(heap.counts(), (1, 1, 1, 1, 0))
        self.assertEqual(heap.make("list", nils(16)), 1)
        self.assertEqual(heap.number(1), 2)

    def test_a_thing_greater_than_the_room(self):
        heap = Heap(Room(8, 8, 0))
        self.assertEqual(told(heap.make, "list", nils(7)), ("HeapFull", 9))
        self.assertEqual(heap.make("list", nils(6)), 0)

    def test_an_endless_heap_is_never_full(self):
        heap = Heap(None)
        for at in range(40):
            self.assertEqual(heap.make("list", nils(30000)), at)


class Sweeping(unittest.TestCase):
    def each(self):
        for room in (None, Room(8, 200, 1), Room(60, 200, 0), Room(200, 200, 3)):
            for deeds in ((), ("turn",), ("gather",), ("whole", "turn")):
                heap = Heap(room)
                yield heap, deeds

    def done(self, heap, deeds):
        for deed in deeds:
            getattr(heap, deed)()
        found = heap.sweep()
        before = heap.meaning()
        self.assertEqual(heap.living(), heap.reached())
        if heap.store.room is not None:
            self.assertEqual(broken(heap.layout()), ())
            self.assertEqual(meaning_of(heap.layout()), before)
        self.assertEqual(heap.sweep(), ())
        self.assertEqual(heap.meaning(), before)
        return found

    def test_a_tie_to_what_a_handle_holds(self):
        for heap, deeds in self.each():
            a = heap.make("list", ())
            heap.make("tie", (held(a),))
            self.assertEqual(self.done(heap, deeds), ())
            self.assertEqual(heap.meaning()[1], ((1, "list", ()), (2, "tie", (("thing", 1),))))

    def test_a_tie_to_what_ties_alone_hold(self):
        for heap, deeds in self.each():
            a = heap.make("list", ())
            t = heap.make("tie", (held(a),))
            heap.make("tie", (held(t),))
            u = heap.make("tie", (held(a),))
            heap.make("list", (held(u),))
            for handle in (a, t, u):
                heap.drop(handle)
            self.assertEqual(self.done(heap, deeds), (3, 4))
            self.assertEqual(heap.meaning()[1], ((3, "tie", (NIL,)), (4, "tie", (NIL,)), (5, "list", (("thing", 4),))))

    def test_a_tie_that_is_not_reached_is_no_longer_there(self):
        for heap, deeds in self.each():
            a = heap.make("list", ())
            t = heap.make("tie", (held(a),))
            s = heap.make("tie", (held(t),))
            heap.drop(t)
            heap.drop(a)
            self.assertEqual(heap.living(), (1, 2, 3))
            self.assertEqual(self.done(heap, deeds), (3,))
            self.assertEqual(heap.meaning(), (((s, ("thing", 3)),), ((3, "tie", (NIL,)),)))

    def test_ties_in_rings(self):
        for heap, deeds in self.each():
            t = heap.make("tie", (NIL,))
            a = heap.make("list", (held(t),))
            heap.write(t, 0, held(a))
            heap.drop(a)
            self.assertEqual(self.done(heap, deeds), (1,))
        for heap, deeds in self.each():
            t = heap.make("tie", (NIL,))
            a = heap.make("list", (held(t),))
            heap.write(t, 0, held(a))
            heap.drop(t)
            self.assertEqual(self.done(heap, deeds), ())
            self.assertEqual(heap.meaning()[1], ((1, "tie", (("thing", 2),)), (2, "list", (("thing", 1),))))

    def test_a_tie_to_itself(self):
        for heap, deeds in self.each():
            t = heap.make("tie", (NIL,))
            heap.write(t, 0, held(t))
            self.assertEqual(self.done(heap, deeds), ())
            self.assertEqual(heap.meaning()[1], ((1, "tie", (("thing", 1),)),))

    def test_ties_with_nil(self):
        for heap, deeds in self.each():
            heap.make("tie", (NIL,))
            self.assertEqual(self.done(heap, deeds), ())

    def test_the_numbers_ascend_however_ties_were_come_to(self):
        for heap, deeds in self.each():
            a = heap.make("list", ())
            ties = [heap.make("tie", (held(a),)) for _ in range(5)]
            heap.make("list", tuple(held(tie) for tie in ties[::-1]))
            for handle in (a, *ties[1:]):
                heap.drop(handle)
            self.assertEqual(self.done(heap, deeds), (2, 3, 4, 5, 6))

    def test_where_things_lie_behind_a_sweep(self):
        heap = Heap(Room(20, 60, 0))
        a = heap.make("list", (ONE,))
        t = heap.make("tie", (held(a),))
        b = heap.make("list", (held(t),))
        s = heap.make("tie", (held(b),))
        heap.drop(a)
        heap.drop(b)
        heap.gather()
        heap.turn()
        self.assertEqual(heap.sweep(), (2, 4))
        self.assertEqual(parts(heap), (0, 26, 26, 0, 0, 0, (), ((t, 160), (s, 8 * 23)), 4))
        self.assertEqual(at(heap, 20, 26), (8 + TIE, 2, 3, 8 + TIE, 4, 3))
        self.assertEqual(heap.counts(), (2, 1, 4, 0, 1))

    def test_nursery_and_remembered_places_are_empty_then(self):
        heap = Heap(Room(20, 60, 0))
        a = heap.make("list", (NIL,))
        heap.gather()
        heap.write(a, 0, held(heap.make("tie", (held(a),))))
        self.assertEqual(heap.sweep(), ())
        self.assertEqual(parts(heap), (1, 86, 86, 0, 0, 0, (), ((0, 640), (1, 8 * 83)), 2))
        self.assertEqual(at(heap, 80, 86), (8 + LIST, 1, 8 * 83, 8 + TIE, 2, 640))


class Parts(unittest.TestCase):
    def test_equality_of_layouts(self):
        given = [Room(8, 9, 0), (1, 2), 0, 3, 4, 5, 6, 7, (8,), ((0, 1),), 9]
        layout = Layout(*given)
        self.assertTrue(layout == Layout(*given))
        self.assertFalse(layout != Layout(*given))
        names = "room words use free scan top left copied remembered roots last".split()
        self.assertEqual([getattr(layout, name) for name in names], given)
        for at_part in range(len(given)):
            for other in (Room(8, 9, 1), (1, 3), 100, None, "x", ()):
                changed = given[:at_part] + [other] + given[at_part + 1:]
                self.assertFalse(layout == Layout(*changed), (at_part, other))
                self.assertTrue(layout != Layout(*changed))
        for other in (None, 0, tuple(given), given, "Layout", Room(8, 9, 0), Heap(None), object()):
            self.assertFalse(layout == other)
            self.assertTrue(layout != other)

    def test_layouts_of_a_heap_never_change(self):
        heap = Heap(Room(8, 20, 0))
        heap.make("list", (NIL,))
        layout = heap.layout()
        before = (layout.words, layout.top, layout.roots)
        heap.write(0, 0, ONE)
        heap.turn()
        heap.drop(0)
        self.assertEqual((layout.words, layout.top, layout.roots), before)
        self.assertEqual(meaning_of(layout), (((0, ("thing", 1)),), ((1, "list", (NIL,)),)))


if __name__ == "__main__":
    unittest.main()
