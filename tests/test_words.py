"""[11.1] word(tag, payload), tag_of(word), payload_of(word)."""

import unittest

from tests.told import NO_STRINGS, nested, nested_dict, nested_list, told
from unseenheap.words import payload_of, tag_of, word

LEAST, MOST = -2 ** 59, 2 ** 59 - 1
ENDS = {0: (0, 10 ** 39), 1: (LEAST, MOST), 2: (0, 1), 3: (0, 0), 4: (0, 8), 5: (0, 10 ** 39)}
ODD = [odd for odd in NO_STRINGS if isinstance(odd, bool) or not isinstance(odd, int)] + [
    "", "1", "word", nested(250), nested_list(250), nested_dict(250), (1, 2),
]


class Words(unittest.TestCase):
    def test_both_ends_of_each_tag(self):
        for tag, ends in ENDS.items():
            for payload in {*ends, ends[0] + 1 if ends[1] else 0, ends[1] - 1 if ends[1] else 0, ends[1] // 2}:
                self.assertEqual(word(tag, payload), 8 * payload + tag)
                self.assertEqual(tag_of(8 * payload + tag), tag)
                self.assertEqual(payload_of(8 * payload + tag), payload)

    def test_beyond_both_ends_of_each_tag(self):
        for tag, (least, most) in ENDS.items():
            beyond = [least - 1, least - 10 ** 20] + ([] if tag in (0, 5) else [most + 1, most + 10 ** 20])
            for payload in beyond:
                self.assertEqual(told(word, tag, payload), ("NoWord",), (tag, payload))
                self.assertEqual(told(tag_of, 8 * payload + tag), ("NoWord",), (tag, payload))
                self.assertEqual(told(payload_of, 8 * payload + tag), ("NoWord",), (tag, payload))

    def test_told_words(self):
        self.assertEqual(word(1, -1), -7)
        self.assertEqual((tag_of(-7), payload_of(-7)), (1, -1))
        self.assertEqual(word(1, LEAST), -8 * 2 ** 59 + 1)
        self.assertEqual(word(2, 1), 10)
        self.assertEqual(word(3, 0), 3)
        self.assertEqual(word(4, 8), 68)
        self.assertEqual(word(0, 0), 0)
        self.assertEqual(word(5, 3), 29)

    def test_tags_that_are_none(self):
        for tag in (6, 7, 8, 9, -1, -8, 10 ** 39, -10 ** 39):
            for payload in (0, 1, -1, 5):
                self.assertEqual(told(word, tag, payload), ("NoWord",))
        for thing in (6, 7, 14, 15, -1, -2, 8 * 10 ** 20 + 6, -10 ** 39):
            if thing % 8 != 1:
                self.assertEqual(told(tag_of, thing), ("NoWord",), thing)
                self.assertEqual(told(payload_of, thing), ("NoWord",), thing)

    def test_those_below_nought(self):
        words = [8 * payload + tag for tag in range(6) for payload in range(-3, 0)]
        for thing in words:
            wanted = 1 if thing % 8 == 1 else ("NoWord",)
            self.assertEqual(told(tag_of, thing), wanted)
            self.assertEqual(told(payload_of, thing), thing // 8 if thing % 8 == 1 else ("NoWord",))

    def test_all_small_integers(self):
        for thing in range(-200, 200):
            tag, payload = thing % 8, thing // 8
            is_word = tag in ENDS and ENDS[tag][0] <= payload and (tag in (0, 5) or payload <= ENDS[tag][1])
            self.assertEqual(told(tag_of, thing), tag if is_word else ("NoWord",), thing)
            self.assertEqual(told(payload_of, thing), payload if is_word else ("NoWord",), thing)
            self.assertEqual(told(word, tag, payload), thing if is_word else ("NoWord",), thing)

    def test_things_that_are_no_integers(self):
        for odd in ODD:
            self.assertEqual(told(tag_of, odd), ("NoWord",), repr(odd)[:50])
            self.assertEqual(told(payload_of, odd), ("NoWord",), repr(odd)[:50])
            self.assertEqual(told(word, odd, 0), ("NoWord",), repr(odd)[:50])
            self.assertEqual(told(word, 1, odd), ("NoWord",), repr(odd)[:50])
            self.assertEqual(told(word, 2, odd), ("NoWord",), repr(odd)[:50])


if __name__ == "__main__":
    unittest.main()
