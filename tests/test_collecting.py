"""[11.4] to [11.10], [12]: deeds of all kinds, drawn by chance, done to heaps in many rooms, to an endless one, and to the
models: the meaning, the layout, and all that is told are as the models tell, behind each deed."""

import random
import unittest

from tests.heap_model import Full, HeapModel, LyingModel
from tests.told import told
from unseenheap.heaps import Heap
from unseenheap.images import restored
from unseenheap.layouts import Layout, broken, is_sound, meaning_of
from unseenheap.rooms import Room

WORDS = (1, 9, 17, 3, 2, 10, 4, 5, -7, 8 * 65 + 1)
SIGNS = (8 * 65 + 1, 8 * 32 + 1, 8 * 126 + 1)


class Drawn:
    """Deeds that are drawn so that they can be done: tuples of the method's name and its arguments."""

    def __init__(self, seed):
        self.chance = random.Random(seed)
        self.model = HeapModel()
        self.most = self.chance.choice([4, 8, 15])

    def any_item(self):
        if self.model.handles and self.chance.random() < 0.75:
            return ("held", self.chance.choice(list(self.model.handles)))
        return ("word", self.chance.choice(WORDS))

    def thing_handles(self, *sorts):
        return [handle for handle, worth in self.model.handles.items()
                if worth[0] == "thing" and (not sorts or self.model.thing(handle)[0] in sorts)]

    def items_for(self, sort):
        if sort == "text":
            return tuple(("word", self.chance.choice(SIGNS)) for _ in range(self.chance.randrange(4)))
        if sort == "cell":
            return (self.any_item(),)
        if sort == "tie":
            handles = self.thing_handles()
            return (("held", self.chance.choice(handles)) if handles and self.chance.random() < 0.9 else ("word", 3),)
        many = self.chance.choice([0, 1, 1, 2, 2, 3, 4, 9])
        inner = tuple(self.any_item() for _ in range(many))
        return inner if sort == "list" else (("word", 8 * self.chance.randrange(5) + 1), *inner)

    def deed(self):
        roll = self.chance.random()
        if roll < 0.34:
            sort = self.chance.choice(["text", "list", "list", "list", "object", "function", "cell", "tie", "tie"])
            return ("make", sort, self.items_for(sort))
        if len(self.model.handles) > self.most or roll < 0.46 and self.model.handles:
            return ("drop", self.chance.choice(list(self.model.handles)))
        if roll < 0.5:
            return ("hold", self.any_item())
        full = [handle for handle in self.thing_handles() if self.model.thing(handle)[1]]
        if roll < 0.62 and full:
            handle = self.chance.choice(full)
            return ("read", handle, self.chance.randrange(len(self.model.thing(handle)[1])))
        if roll < 0.8 and full:
            return self.write(self.chance.choice(full))
        roll = self.chance.randrange(12)
        if roll < 3:
            return ("gather",)
        if roll < 6:
            return ("turn",)
        if roll < 9:
            return ("steps", self.chance.choice([0, 1, 1, 2, 5, 10 ** 9]))
        return ("whole",) if roll < 11 else ("sweep",)

    def write(self, handle):
        sort, worths = self.model.thing(handle)
        place = self.chance.randrange(len(worths))
        if sort == "text":
            return ("write", handle, place, ("word", self.chance.choice(SIGNS)))
        if sort == "tie":
            return ("write", handle, place, self.items_for("tie")[0])
        if place == 0 and sort in ("object", "function"):
            return ("write", handle, place, ("word", 8 * self.chance.randrange(9) + 1))
        return ("write", handle, place, self.any_item())


def done(heap, deed):
    return told(getattr(heap, deed[0]), *deed[1:])


COLLECTING = ("gather", "turn", "steps", "whole")


class Chances(unittest.TestCase):
    def check_layout(self, heap, lying):
        layout = heap.layout()
        self.assertIsInstance(layout, Layout)
        self.assertEqual(broken(layout), ())
        self.assertIs(is_sound(layout), True)
        parts = (layout.room, layout.use, layout.free, layout.scan, layout.top, layout.left, layout.copied,
                 layout.remembered, layout.roots, layout.last)
        self.assertEqual(parts, lying.parts())
        self.assertEqual(len(layout.words), layout.room.young + 2 * layout.room.old)
        for address, words in lying.words():
            self.assertEqual(list(layout.words[address:address + len(words)]), words)
        self.assertEqual(heap.counts(), tuple(lying.counts))
        self.assertEqual(meaning_of(layout), heap.meaning())
        return layout

    def check_meaning(self, heap, model):
        self.assertEqual(heap.meaning(), model.meaning())
        self.assertEqual(heap.living(), model.living())
        self.assertEqual(heap.reached(), model.reached())
        self.assertEqual(heap.filled(), model.filled())

    def run_deeds(self, seed, room, many):
        drawn = Drawn(seed)
        model, lying, heap, endless = drawn.model, LyingModel(room), Heap(room), Heap(None)
        full = 0
        for at in range(many):
            deed = drawn.deed()
            found = done(heap, deed)
            if deed[0] in COLLECTING:
                self.assertEqual(found, getattr(lying, deed[0])(*deed[1:]))
                self.assertEqual(done(endless, deed), 0)
            elif deed[0] == "make" and found == ("HeapFull",  len(deed[2]) + 2):
                # The fact of room: it is raised just if all living things and the new one are more.
                self.assertGreater(model.filled() + len(deed[2]) + 2, room.old)
                self.assertRaises(Full, lying.make, *deed[1:])
                full += 1
            else:
                if deed[0] == "make":
                    self.assertLessEqual(model.filled() + len(deed[2]) + 2, room.old)
                wanted = self.by_model(model, deed)
                self.by_model(lying, deed)
                self.assertEqual(found, wanted)
                self.assertEqual(done(endless, deed), wanted)
            self.check_layout(heap, lying)
            if at % 3 == 0:
                self.check_meaning(heap, model)
                self.check_meaning(endless, model)
        self.check_rest(heap, model)
        self.check_rest(endless, model)
        return full

    def by_model(self, model, deed):
        if deed[0] == "drop":
            del model.handles[deed[1]]
            return None
        if deed[0] == "hold":
            return model.give(model.worth(deed[1]) if isinstance(model, HeapModel) else model.word(deed[1]))
        return getattr(model, deed[0])(*deed[1:])

    def check_rest(self, heap, model):
        for number in range(1, model.last + 1):
            self.assertEqual(heap.way(number), model.way(number))
            self.assertEqual(heap.holders(number), model.holders(number))
        self.assertEqual(heap.image(), model.image())
        self.assertEqual(heap.meaning(), model.meaning())

    def test_small_rooms(self):
        full = 0
        for seed in range(60):
            chance = random.Random(seed)
            room = Room(chance.choice([8, 8, 9, 12, 20]), chance.choice([20, 30, 50, 80]), chance.choice([0, 1, 2, 7]))
            full += self.run_deeds(seed, room, 120)
        self.assertGreater(full, 100)

    def test_rooms_with_nurseries_as_great_as_halves(self):
        for seed in range(60, 80):
            old = 20 + seed % 7 * 13
            self.run_deeds(seed, Room(old, old, seed % 3), 120)

    def test_great_rooms(self):
        for seed in range(80, 95):
            self.run_deeds(seed, Room(30, 2000, seed % 4), 200)

    def test_nothing_but_turns_and_steps_between(self):
        """The same is done to heaps with other deeds of the collector between: the meaning is the same."""
        for seed in range(95, 135):
            drawn = Drawn(seed)
            chance = random.Random(seed)
            heaps = [Heap(Room(8, 400, 0)), Heap(Room(8, 400, 3)), Heap(Room(400, 400, 1)), Heap(None), Heap(Room(10, 3000, 2))]
            for _ in range(150):
                deed = drawn.deed()
                if deed[0] in COLLECTING:
                    continue
                wanted = self.by_model(drawn.model, deed)
                for heap in heaps:
                    for _ in range(chance.randrange(3)):
                        done(heap, chance.choice([("gather",), ("turn",), ("steps", 1), ("steps", 2), ("whole",)]))
                    found = done(heap, deed)
                    self.assertEqual(found, wanted)
                self.assertEqual(len({heap.meaning() for heap in heaps} | {drawn.model.meaning()}), 1)
            for heap in heaps:
                self.check_rest(heap, drawn.model)

    def test_restored_heaps_go_on_alike(self):
        """What is done to a heap, and to one restored amid it, means the same; numbers of handles are told anew."""
        for seed in range(135, 165):
            drawn = Drawn(seed)
            chance = random.Random(seed)
            heap = Heap(Room(12, 500, seed % 3))
            for at in range(120):
                deed = drawn.deed()
                if deed[0] not in COLLECTING:
                    self.assertEqual(done(heap, deed), self.by_model(drawn.model, deed))
                else:
                    done(heap, deed)
                if chance.random() < 0.1:
                    text = heap.image()
                    room = chance.choice([None, Room(8, 500, 1), Room(100, 700, 0)])
                    heap = restored(text, room)
                    self.assertEqual(heap.image(), text)
                    self.assertEqual(heap.counts(), (0, 0, 0, 0, 0))
                    drawn.model.next = max(drawn.model.handles, default=-1) + 1
                self.assertEqual(heap.meaning(), drawn.model.meaning())
            self.check_rest(heap, drawn.model)


if __name__ == "__main__":
    unittest.main()
