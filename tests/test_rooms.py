"""[11.2] class Room(young, old, pace)."""

import unittest

from tests.told import NO_STRINGS, nested, nested_dict, nested_list, told
from unseenheap.rooms import Room
from unseenheap.units import Code

NO_INTEGERS = [odd for odd in NO_STRINGS if isinstance(odd, bool) or not isinstance(odd, int)] + ["8", "", nested(250), nested_list(250), nested_dict(250)]


class Rooms(unittest.TestCase):
    def test_both_ends_of_each_part(self):
        for young, old, pace in ((8, 8, 0), (8, 9, 1), (8, 1000000, 1000), (100000, 100000, 0), (100000, 1000000, 1000), (50, 200, 7), (9, 9, 999)):
            room = Room(young, old, pace)
            self.assertEqual((room.young, room.old, room.pace), (young, old, pace))

    def test_beyond(self):
        for young in [7, 0, -1, -8, 100001, 10 ** 39, -10 ** 39, *NO_INTEGERS]:
            self.assertEqual(told(Room, young, 200000, 1), ("BadRoom", "young"), repr(young)[:50])
        for young, old in ((8, 7), (9, 8), (100000, 99999), (8, 1000001), (8, -8), (8, 0), (8, 10 ** 39), (50, 49)):
            self.assertEqual(told(Room, young, old, 1), ("BadRoom", "old"), (young, old))
        for pace in [-1, 1001, 10 ** 39, -10 ** 39, *NO_INTEGERS]:
            self.assertEqual(told(Room, 8, 8, pace), ("BadRoom", "pace"), repr(pace)[:50])
        for old in NO_INTEGERS:
            self.assertEqual(told(Room, 8, old, 1), ("BadRoom", "old"), repr(old)[:50])

    def test_several_wrong_at_once(self):
        self.assertEqual(told(Room, 7, 6, -1), ("BadRoom", "young"))
        self.assertEqual(told(Room, None, None, None), ("BadRoom", "young"))
        self.assertEqual(told(Room, 8, 7, -1), ("BadRoom", "old"))
        self.assertEqual(told(Room, 8, None, None), ("BadRoom", "old"))
        self.assertEqual(told(Room, 100001, 8, 0), ("BadRoom", "young"))

    def test_equality(self):
        room = Room(8, 200, 1)
        self.assertTrue(room == Room(8, 200, 1))
        self.assertFalse(room != Room(8, 200, 1))
        for other in (Room(9, 200, 1), Room(8, 201, 1), Room(8, 200, 2), None, 8, (8, 200, 1), [8, 200, 1], "Room",
                      Code("f", 0, 0, 0, (("tick",),), ()), object()):
            self.assertFalse(room == other)
            self.assertTrue(room != other)


if __name__ == "__main__":
    unittest.main()
