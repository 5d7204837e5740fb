"""[13.2] machine.image() and resumed(unit, text, room, moments)."""

import random
import unittest

from tests.drawn_programs import drawn, drawn_moments
from tests.drawn_units import drawn_unit, loose_unit
from tests.machine_model import MachineModel
from tests.machine_runs import ROOMS, all_told, drawn_deeds, unit_of_rows, with_ticks, without_collecting
from tests.told import NO_STRINGS, nested, nested_dict, nested_list, told
from unseenheap.compiling import compiled
from unseenheap.examine import is_let
from unseenheap.layouts import broken
from unseenheap.machine import Machine
from unseenheap.reading import read
from unseenheap.revived import resumed
from unseenheap.rooms import Room
from unseenheap.units import Code, Unit

ODD = [*NO_STRINGS, nested(250), nested_list(250), nested_dict(250), "", "room"]
# A program with all that can stand in an image: two texts, methods, cells, threads of all states, frames of all kinds.
TEXT = (
    'class A { x; y; init(v) { this.x = v; } m(p) { var q = [p]; yield(); return fun() { return q; }; } }\n'
    'fun f(a) { var t = weak([a]); var g = fun() { a = a + 1; return t; }; yield(); return g; }\n'
    'var o = new A("s" + "t"); say "s"; say "";\n'
    'var over = spawn(fun() { return [o]; });\n'
    'var thrown = spawn(fun() { throw nil; });\n'
    'fun wait() { return [join(spawn(fun() { while true { yield(); } }))]; }\n'
    'var waits = spawn(fun() { return [1, wait()]; });\n'
    'var deep = spawn(fun() { var h = o.m([1, f(5)]); });\n'
    'while true { yield(); }\n'
)
MOMENTS = tuple((tick, "switch") for tick in range(4, 40, 2))


def unit_of(text):
    return compiled(read(text))


def machine_at(ticks, room=None):
    machine = Machine(unit_of(TEXT), room, MOMENTS if room is None else MOMENTS)
    machine.run(ticks)
    return machine


class Written(unittest.TestCase):
    def test_before_anything_is_done(self):
        unit = unit_of('fun f() { } var a = 1; say "x"; if true { var b = 2; }')
        for room in (None, Room(8, 60, 1)):
            self.assertEqual(Machine(unit, room, ()).image(), (
                "ticks 0\ntops t2 w3\nqueue 0\nready\nframe 0 0\nslots w3\ncalls w3\npile\nlast 2\nthing 1 text w961\nthing 2 function w9\n"))

    def test_an_image_by_hand(self):
        unit = unit_of('fun f(a) { yield(); return fun() { return a; }; } class A { x; m() { yield(); throw -5; } } say "q"; say ""; var t = spawn(fun() { return join(s); });'
                       ' var s = spawn(fun() { return new A().m(); }); [f(weak([true]))];')
        for room in (None, Room(8, 200, 1)):
            machine = Machine(unit, room, ((3, "switch"),))
            machine.run(5)
            # Tick 1 the top, 2 f, 3 its yield; 4 thread 1, which waits; 5 thread 2.
            self.assertEqual(machine.image(), (
                "ticks 5\nsaid 113\nsaid\ntops t3 w13 w21\nqueue 2 0\n"
                "ready\nframe 0 16\nslots\ncalls w3\npile\nframe 1 3\nslots t8\ncalls t3\npile\n"
                "waits 2\nframe 4 2\nslots\ncalls t4\npile w21\n"
                "ready\nframe 5 1\nslots\ncalls t5\npile\n"
                "last 8\nthing 1 text w905\nthing 2 text\nthing 3 function w9\nthing 4 function w33\nthing 5 function w41\n"
                "thing 6 list w10\nthing 7 tie t6\nthing 8 cell t7\n"))
            machine.run(100)
            self.assertEqual(machine.image(), (
                "ticks 7\nsaid 113\nsaid\ntops t3 w13 w21\nqueue\ngave w3\nthrew w-39\nthrew w-39\nlast 11\n"
                "thing 1 text w905\nthing 2 text\nthing 3 function w9\n"))

    def test_drawn_machines(self):
        for seed in range(60):
            unit = compiled(drawn(seed))
            moments = drawn_moments(seed)
            model = MachineModel(unit, moments)
            machines = [Machine(unit, room, moments) for room in (None, ROOMS[seed % 4])]
            for ticks in range(40):
                model.run(ticks)
                for machine in machines:
                    machine.run(ticks)
                    self.assertEqual(machine.image(), model.image())


class GoingOn(unittest.TestCase):
    def check(self, unit, moments, most, seed):
        chance = random.Random(seed)
        seen = without_collecting(moments)
        machine = Machine(unit, None, seen)
        goes_on = [machine.copy()]
        for ticks in range(most):
            machine.run(ticks)
            meaning, image = machine.meaning(), machine.image()
            for other in goes_on:
                other.run(ticks)
                self.assertEqual(other.meaning(), meaning)
            self.assertEqual(goes_on[-1].image(), image)
            room = chance.choice([None, *ROOMS])
            new = resumed(unit, image, room, chance.choice([seen, moments]))
            self.assertIs(type(new), Machine)
            self.assertEqual((new.meaning(), new.image(), all_told(new)), (meaning, image, all_told(machine)))
            self.assertEqual(new.counts(), (0, 0, 0, 0, 0))
            if room is not None:
                self.assertEqual(broken(new.layout()[0]), ())
            goes_on = [*goes_on[-2:], new]
            if machine.is_over():
                break
        for other in goes_on:
            other.run(most + 20)
            machine.run(most + 20)
            self.assertEqual(other.meaning(), machine.meaning())

    def test_drawn_programs(self):
        for seed in range(60):
            self.check(compiled(drawn(seed)), drawn_deeds(seed, 70), 50, seed)

    def test_between_all_rows(self):
        for seed in range(100, 115):
            self.check(with_ticks(compiled(drawn(seed))), drawn_deeds(seed, 150, 0.05), 130, seed)

    def test_drawn_units(self):
        many = 0
        for seed in range(400):
            for unit in (drawn_unit(seed), loose_unit(seed)):
                if is_let(unit):
                    self.check(with_ticks(unit) if seed % 2 else unit, drawn_deeds(seed, 20), 20, seed)
                    many += 1
        self.assertGreater(many, 250)

    def test_the_program_with_all_kinds(self):
        self.check(unit_of(TEXT), MOMENTS, 45, 3)

    def test_moments_that_are_done_already(self):
        unit = unit_of("var t = weak([1]); yield(); say worth(t); yield(); say worth(t);")
        machine = Machine(unit, None, ())
        machine.run(2)
        for moments, lines in (((), ["list 1", "list 1"]), (((1, "sweep"), (2, "sweep")), ["list 1", "list 1"]), (((2, "sweep"), (3, "sweep")), ["list 1", "nil"]),
                               (((2, "switch"), (2, "sweep"), (3, "switch")), ["list 1", "list 1"])):
            for room in (None, Room(8, 60, 1)):
                other = resumed(unit, machine.image(), room, moments)
                other.run(99)
                self.assertEqual(other.lines(), lines)
        other = resumed(unit, machine.image().replace("ticks 2", "ticks 3"), None, ((3, "sweep"), (4, "sweep")))
        other.run(99)
        self.assertEqual((other.lines(), other.ticks()), (["list 1", "nil"], 4))

    def test_great_numbers_of_ticks(self):
        unit = unit_of("yield(); say 1;")
        image = Machine(unit, None, ()).image().replace("ticks 0", "ticks " + "9" * 25)
        other = resumed(unit, image, None, ((10 ** 9, "sweep"),))
        other.run(10 ** 6)
        self.assertEqual((other.ticks(), other.lines()), (10 ** 25 - 1, []))

    def test_a_machine_that_is_over(self):
        unit = unit_of('say "a"; spawn(fun() { throw [1]; });')
        machine = Machine(unit, None, ())
        machine.run(99)
        other = resumed(unit, machine.image(), Room(8, 30, 0), ())
        self.assertEqual(all_told(other), all_told(machine))
        other.run(99)
        self.assertEqual(other.meaning(), machine.meaning())
        self.assertEqual(other.copy().image(), machine.image())

    def test_a_room_that_just_holds_it_and_one_word_less(self):
        unit = unit_of('fun f() { } f = nil; var l = [1, 2, 3, 4, 5, 6]; yield(); say l[5]; l = [l];')
        machine = Machine(unit, None, ())
        machine.run(2)
        self.assertEqual(resumed(unit, machine.image(), Room(8, 8, 1), ()).made(), 2)
        other = resumed(unit, machine.image(), Room(8, 8, 1), ())
        self.assertEqual(told(other.run, 9), ("HeapFull", 3))
        self.assertEqual(told(other.lines), ("HeapFull", 3))
        image = machine.image().replace("w49\n", "w49 w57\n")
        self.assertEqual(told(resumed, unit, image, Room(8, 8, 1), ()), ("HeapFull", 9))
        self.assertEqual(resumed(unit, image, Room(9, 9, 1), ()).made(), 2)

    def test_things_not_made_by_the_machine(self):
        """What can stand in an image may be more than a machine comes to: the numbers need not be without gaps."""
        unit = unit_of("var a = nil; yield(); say a[0]; say number([]);")
        image = "ticks 1\nsaid 104 105\ntops t70\nqueue 0\nready\nframe 0 4\nslots\ncalls w3\npile\nlast 1000\nthing 70 list w41\n"
        self.assertEqual(told(resumed, unit, image, None, ()).image(), image)
        other = resumed(unit, image, Room(8, 30, 1), ())
        other.run(99)
        self.assertEqual(other.lines(), ["hi", "5", "1001"])


class Errors(unittest.TestCase):
    def test_in_their_order(self):
        unit = unit_of('yield(); [1, 2, 3, 4, 5, 6, 7]; "0123456789";')
        wrong = unit_of_rows(("pop",))
        good = Machine(unit, None, ()).image()
        texts = [(None, ("NoText",)), ("x", None), (good, None)]
        for text, text_error in texts:
            for room, room_error in ((5, ("NoRoom",)), (Room(8, 8, 0), None)):
                for moments, moments_error in ((None, ("NoMoments", -1)), (((1, "turn"), (1, "x")), ("NoMoments", 1)), ((), None)):
                    last = ("BadImage", 1) if text == "x" else ("HeapFull", 12)
                    self.assertEqual(told(resumed, unit, text, room, moments), text_error or room_error or moments_error or last)
                    self.assertEqual(told(resumed, wrong, text, room, moments), ("NotLet", 0, 1))

    def test_odd_arguments(self):
        unit = unit_of("say 1;")
        image = Machine(unit, None, ()).image()
        for odd in ODD:
            if not isinstance(odd, str):
                self.assertEqual(told(resumed, unit, odd, None, ()), ("NoText",), repr(odd)[:50])
            if odd is not None:
                self.assertEqual(told(resumed, unit, image, odd, ()), ("NoRoom",), repr(odd)[:50])
            if not isinstance(odd, tuple):
                self.assertEqual(told(resumed, unit, image, None, odd), ("NoMoments", -1), repr(odd)[:50])


class Lines(unittest.TestCase):
    """One line of an image is exchanged: the line that is due is told."""

    def setUp(self):
        self.unit = unit_of(TEXT)
        machine = Machine(self.unit, None, MOMENTS)
        machine.run(19)
        self.image = machine.image()
        self.lines = self.image.split("\n")[:-1]

    def line_of(self, text):
        found = told(resumed, self.unit, text, None, ())
        if isinstance(found, tuple) and found[0] == "BadImage":
            return found[1]
        return None if isinstance(found, Machine) else found

    def at(self, begin, many=0):
        """The number of the line that begins so, from 1 on; many of them stand ahead."""
        return [at for at, line in enumerate(self.lines, start=1) if line.startswith(begin)][many]

    def changed(self, at, *lines):
        return "\n".join([*self.lines[:at - 1], *lines, *self.lines[at:]]) + "\n"

    def refuse(self, at, *lines, wanted=None):
        """The line at a number is refused if it is one of these lines."""
        for line in lines:
            self.assertEqual(self.line_of(self.changed(at, line)), at if wanted is None else wanted, (at, line))

    def test_the_image_from_which_others_are_made(self):
        self.assertEqual(self.line_of(self.image), None)
        states = [line.split(" ")[0] for line in self.lines]
        for word in ("ready", "waits", "gave", "threw"):
            self.assertIn(word, states)
        self.assertIn("queue", states)
        self.assertEqual([len(line.split(" ")) for line in self.lines if line.startswith("tops")], [8])

    def test_ticks(self):
        self.refuse(1, "", "ticks", "ticks ", "ticks -1", "ticks 01", "ticks x", "ticks 1 1", " ticks 1", "Ticks 1", "tick 1", "ticks  1", "ticks " + "1" * 26, "said 65", "last 1")
        self.assertEqual(self.line_of(self.changed(1, "ticks " + "1" * 25)), None)
        self.assertEqual(self.line_of(self.changed(1, "ticks 0")), None)

    def test_said(self):
        self.refuse(2, "said 31", "said 127", "said 37", "said 0", "said -65", "said 065", "said 65 ", "said  65", "said x", "said w65", "Said 65", "said 65,66", "says", "said 65 37",
                    "said " + "1" * 26)
        for line in ("said", "said 32", "said 126 36 38", "said 65 65 65"):
            self.assertEqual(self.line_of(self.changed(2, line)), None)
        self.assertEqual(self.line_of(self.changed(2, "said", "said 65", "said")), None)
        self.assertEqual(self.line_of(self.changed(2)), None)

    def test_tops(self):
        at = self.at("tops")
        words = self.lines[at - 1].split(" ")
        nils = "tops w3 w3 w3 w3 w3 w3"
        self.refuse(at, "tops", " ".join(words[:-1]), " ".join([*words, "w3"]), *[f"{nils} {word}" for word in ("w", "3", "w0", "w6", "w8", " w3", "w3 ", "w03", "t-1", "w76", "")],
                    nils, nils + " w3 w3", nils.replace("tops", "top") + " w3")
        # Things that are not there, threads that are not there, a cell.
        cell = self.lines[self.at("thing", 0) - 1:]
        cell = [line.split(" ")[1] for line in cell if line.split(" ")[2] == "cell"][0]
        for word in ("t0", "t999", "w77", "w805", "t" + cell):
            self.refuse(at, " ".join([*words[:-1], word]))
        many = len([line for line in self.lines if line.split(" ")[0] in ("ready", "waits", "gave", "threw")])
        # A line of a thing that doesn't live is told only where one is.
        self.assertEqual(self.line_of(self.changed(at, " ".join([*words[:-1], f"w{8 * (many - 1) + 5}"]))), None)
        self.refuse(at, " ".join([*words[:-1], f"w{8 * many + 5}"]))

    def test_queue(self):
        at = self.at("queue")
        numbers = self.lines[at - 1].split(" ")[1:]
        self.assertGreater(len(numbers), 2)
        self.refuse(at, "queue", "queue " + " ".join(numbers[1:]), "queue " + " ".join([*numbers, numbers[0]]), "queue " + " ".join([*numbers, "99"]), "queue -1", "queue 00", "queue x",
                    "queue " + " ".join(numbers) + " ", "queue  " + " ".join(numbers), "Queue " + " ".join(numbers), "queue w0", "queue " + " ".join([*numbers[:-1], "99"]))
        over = [at for at, line in enumerate(line for line in self.lines if line.split(" ")[0] in ("ready", "waits", "gave", "threw")) if not line.startswith("ready")]
        for number in over:
            self.refuse(at, "queue " + " ".join([*numbers, str(number)]), "queue " + " ".join([*numbers[:-1], str(number)]))
        self.assertEqual(self.line_of(self.changed(at, "queue " + " ".join(numbers[::-1]))), None)

    def test_which_kind_first(self):
        # A number twice is of the first kind, others in the queue of the second one, which is told behind lines that can't stand there.
        at, last = self.at("queue"), self.at("last")
        numbers = self.lines[at - 1].split(" ")[1:]
        self.lines[last - 1] = "last x"
        self.refuse(at, "queue " + " ".join([*numbers, numbers[0]]))
        self.refuse(at, "queue", "queue 99", "queue " + " ".join(numbers[1:]), wanted=last)

    def test_states(self):
        at = self.at("ready")
        self.refuse(at, "ready ", "ready 0", "Ready", "", "waits", "waits x", "waits -1", "waits 01", "waits 0 0", "waits  0", "gave", "threw", "frame 0 1", "last 9")
        at = self.at("waits")
        self.refuse(at, "waits", "waits ", "waits x", "waits 1 1", "waits -2", "wait 1")
        gave = self.at("gave")
        self.refuse(gave, "gave", "gave w3 w3", "gave w0", "gave x", "gave ", "gave w3 ", "threw", "give w3")
        for word in ("t0", "t999", "w805"):
            self.refuse(gave, "gave " + word, "threw " + word)
        # What is over has no frames.
        self.assertEqual(self.line_of(self.changed(gave, "ready")), gave + 1)
        self.assertEqual(self.line_of(self.changed(at, "gave w3")), at + 1)

    def test_one_thread_at_least(self):
        first, last = self.at("ready"), self.at("last")
        lines = [*self.lines[:first - 1], *self.lines[last - 1:]]
        self.assertEqual(self.line_of("\n".join(lines) + "\n"), first)

    def test_one_frame_at_least(self):
        for word, many in (("ready", 1), ("waits", 2)):
            at = self.at(word)
            lines = [*self.lines[:at], *self.lines[at + 4 * many:]]
            self.assertFalse(lines[at].startswith("frame"))
            self.assertEqual(self.line_of("\n".join(lines) + "\n"), at + 1)

    def test_codes_of_frames(self):
        at = self.at("frame 0")
        self.refuse(at, "frame", "frame 0", "frame 0 1 1", "frame x 1", "frame 0 x", "frame -1 0", "frame 00 1", "frame 0 -1", "frame 99 0", "frame  0 1", "frame 0 1 ", "frames 0 1")
        # The first frame of thread 0, and no other one, is of code 0.
        for code in range(1, len(self.unit.codes) + 2):
            self.refuse(at, f"frame {code} 1", f"frame {code} 0")
        for other in [number for number, line in enumerate(self.lines, start=1) if line.startswith("frame") and number != at]:
            self.refuse(other, "frame 0 1")
        # The first frames of other threads are of codes without parameters.
        firsts = [number + 1 for number, line in enumerate(self.lines, start=1) if line == "ready" or line.startswith("waits")][1:]
        for first in firsts:
            self.refuse(first, f"frame {len(self.unit.codes)} 0", f"frame {len(self.unit.codes)} 1")
            for code, made in enumerate(self.unit.codes):
                if made.params:
                    self.refuse(first, f"frame {code} 1")

    def test_rows_of_frames(self):
        at = self.at("frame 0")
        many = len(self.unit.codes[0].rows)
        self.refuse(at, f"frame 0 {many}", f"frame 0 {many + 1}", "frame 0 1000000")
        # No way comes to what stands behind the give of a method.
        at = self.at("frame 2")
        self.assertEqual(self.unit.codes[2].rows[-3:], (("give",), ("push", ("nil",)), ("give",)))
        self.refuse(at, "frame 2 10", "frame 2 11", "frame 2 12")

    def test_frames_ahead_of_the_last_one(self):
        ahead = [at for at in range(1, len(self.lines)) if self.lines[at - 1].startswith("frame") and self.lines[at + 3].startswith("frame")]
        self.assertTrue(ahead)
        for at in ahead:
            code, row = map(int, self.lines[at - 1].split(" ")[1:])
            self.assertIn(self.unit.codes[code].rows[row - 1][0], ("call", "send", "up"))
            for other in range(len(self.unit.codes[code].rows)):
                if other == 0 or self.unit.codes[code].rows[other - 1][0] not in ("call", "send", "up"):
                    self.refuse(at, f"frame {code} {other}")

    def test_a_frame_ahead_that_is_made_the_last_one(self):
        """What a call gives lacks on the pile then; in a waiting thread it doesn't stand at a join."""
        ready = [at for at in range(1, len(self.lines)) if self.lines[at - 1].startswith("frame") and self.lines[at + 3].startswith("frame")]
        waiting = [at for at in ready if self.lines[at - 2].startswith("waits")]
        self.assertEqual((len(ready), len(waiting)), (2, 1))
        for at in ready:
            lines = [*self.lines[:at + 3], *self.lines[at + 7:]]
            self.assertEqual(self.line_of("\n".join(lines) + "\n"), at if at in waiting else at + 3)

    def test_a_last_frame_that_is_made_one_ahead(self):
        for at in range(1, len(self.lines)):
            if self.lines[at - 1].startswith("frame") and not self.lines[at + 3].startswith("frame"):
                lines = [*self.lines[:at + 3], *self.lines[at - 1:]]
                self.assertEqual(self.line_of("\n".join(lines) + "\n"), at if self.lines[at - 1] != "frame 0 1" else at + 3)

    def test_a_waiting_thread_stands_at_a_join(self):
        at = self.at("waits") + 5
        code, row = map(int, self.lines[at - 1].split(" ")[1:])
        self.assertEqual(self.unit.codes[code].rows[row], ("join",))
        for other in range(len(self.unit.codes[code].rows)):
            if other != row:
                self.refuse(at, f"frame {code} {other}")

    def test_slots(self):
        for at in [number for number, line in enumerate(self.lines, start=1) if line.startswith("slots")]:
            words = self.lines[at - 1].split(" ")
            self.refuse(at, " ".join([*words, "w3"]), "slot", " ".join(words) + " ", " ".join([*words[:-1], "x"]) if len(words) > 1 else "slots x")
            if len(words) > 1:
                self.refuse(at, " ".join(words[:-1]), " ".join([*words[:-1], "t999"]), " ".join([*words[:-1], "w805"]), " ".join([*words[:-1], "w8"]))

    def test_calls(self):
        first = self.at("calls")
        function = [line.split(" ")[1] for line in self.lines if line.startswith("thing") and " function " in line][0]
        self.refuse(first, "calls t" + function, "calls w2", "calls", "calls w3 w3", "calls w", "calls w10", "call w3", "calls w3 ")
        methods = {code for _, _, _, inner in self.unit.classes for _, code in inner}
        for at in [number for number, line in enumerate(self.lines, start=1) if line.startswith("calls")][1:]:
            code = int(self.lines[at - 3].split(" ")[1])
            if code in methods:
                self.assertEqual(self.lines[at - 1], "calls w3")
            else:
                self.refuse(at, "calls w3")
            self.refuse(at, "calls w2", "calls w9", "calls", "calls t999", "calls t1", "calls w5")
            for line in self.lines:
                # A thing that is no function of the frame's code.
                if line.startswith("thing") and not (line.split(" ")[2] == "function" and line.split(" ")[3] == f"w{8 * code + 1}"):
                    self.refuse(at, "calls t" + line.split(" ")[1])

    def test_piles(self):
        for at in [number for number, line in enumerate(self.lines, start=1) if line.startswith("pile")]:
            words = self.lines[at - 1].split(" ")
            self.refuse(at, " ".join([*words, "w3"]), "piles", " ".join(words) + " ")
            if len(words) > 1:
                self.refuse(at, " ".join(words[:-1]), " ".join([*words[:-1], "t999"]), " ".join([*words[:-1], "w805"]), " ".join([*words[:-1], "w8"]))
        at = self.at("waits") + 8
        number = int(self.lines[at - 9].split(" ")[1])
        self.assertEqual(self.lines[at - 1], f"pile w{8 * number + 5}")
        self.refuse(at, "pile w3", f"pile w{8 * number + 13}", f"pile w{8 * number + 1}", "pile w5")
        # The thread waited for is told twice, and must be there.
        many = len([line for line in self.lines if line.split(" ")[0] in ("ready", "waits", "gave", "threw")])
        for other, wanted in ((77, at - 8), (many, at - 8), (many - 1, None), (0, None)):
            lines = list(self.lines)
            lines[at - 9], lines[at - 1] = f"waits {other}", f"pile w{8 * other + 5}"
            self.assertEqual(self.line_of("\n".join(lines) + "\n"), wanted)

    def test_last_and_things(self):
        at = self.at("last")
        self.refuse(at, "last", "last x", "last -1", "last 01", "last 1 1", "thing 1 text", "ready ", "Last 9")
        last = int(self.lines[at - 1].split(" ")[1])
        greatest = int(self.lines[-1].split(" ")[1])
        self.assertEqual(self.line_of(self.changed(at, f"last {greatest - 1}")), len(self.lines))
        self.assertEqual(self.line_of(self.changed(at, f"last {greatest}")), None)
        self.assertEqual(self.line_of(self.changed(at, f"last {last + 5}")), None)
        for number in range(at + 1, len(self.lines) + 1):
            words = self.lines[number - 1].split(" ")
            self.refuse(number, " ".join(words) + " ", " ".join(["thing", "0", *words[2:]]), " ".join(["thing", "0" + words[1], *words[2:]]), " ".join(["things", *words[1:]]),
                        " ".join([*words, "w8"]), " ".join([*words, "x"]), " ".join([words[0], words[1], words[2] + "s", *words[3:]]), "", "last 9")

    def test_the_units_texts(self):
        at = self.at("last")
        texts = self.unit.texts
        self.assertGreater(len(texts), 1)
        self.assertEqual(self.lines[at].split(" ")[:3], ["thing", "1", "text"])
        self.refuse(at + 1, "thing 1 text w777", "thing 1 text", "thing 1 list", "thing 1 cell w3", "thing 1 text w929 w929", "thing 1 object w1 w3 w3", "thing 1 list w921")
        many = len(texts)
        self.assertEqual(self.lines[at + many - 1], f"thing {many} text" + "".join(f" w{8 * ord(sign) + 1}" for sign in texts[-1]))
        self.refuse(at + many, f"thing {many} text w777 w777", f"thing {many} list")
        self.assertEqual(self.line_of(self.changed(at + 1)), at)
        self.assertEqual(self.line_of(self.changed(at + len(texts))), at)

    def things_of(self, sort):
        found = [number for number, line in enumerate(self.lines, start=1) if line.startswith("thing") and line.split(" ")[2] == sort]
        self.assertTrue(found, sort)
        return found

    def test_objects(self):
        for at in self.things_of("object"):
            words = self.lines[at - 1].split(" ")
            head, inner = words[:3], words[4:]
            for code in (1, 2, -1, 10 ** 6, 2 ** 59 - 1, -2 ** 59):
                self.refuse(at, " ".join([*head, f"w{8 * code + 1}", *inner]))
            self.refuse(at, " ".join([*words, "w3"]), " ".join(words[:-1]), " ".join([*head, "w1"]), " ".join([*head, "t1", *inner]), " ".join([*words[:-1], "t999"]),
                        " ".join([*words[:-1], "w805"]))

    def test_functions(self):
        called = [line.split(" ")[1][1:] for line in self.lines if line.startswith("calls t")]
        for at in self.things_of("function"):
            words = self.lines[at - 1].split(" ")
            head, inner = words[:3], words[4:]
            code = int(words[3][1:]) // 8
            if words[1] in called:
                # A frame names it ahead of its own line.
                line = self.lines.index("calls t" + words[1]) + 1
                self.refuse(at, " ".join([*head, f"w{8 * (code - 1) + 1}", *inner]), wanted=line)
                continue
            for other in (len(self.unit.codes), -1, 10 ** 6):
                self.refuse(at, " ".join([*head, f"w{8 * other + 1}", *inner]))
            self.refuse(at, " ".join([*words, "w3"]), " ".join([*words, "t1"]), " ".join([*head, "w3", *inner]))
            if inner:
                # What the function alone keeps is kept by another one, too, which a list holds.
                other = self.things_of("list")[0]
                self.assertLess(other, at)
                number = int(self.lines[-1].split(" ")[1]) + 1
                self.lines[self.at("last") - 1] = f"last {number}"
                self.lines[other - 1] += f" t{number}"
                self.lines.append(" ".join(["thing", str(number), *words[2:]]))
                self.refuse(at, " ".join([*head, words[3], *inner[:-1]]), " ".join([*words[:-1], "w3"]), " ".join([*words[:-1], "t1"]), " ".join([*words[:-1], "t999"]))
            self.assertEqual(self.unit.codes[code].keeps, len(inner))

    def test_cells_where_none_can_be(self):
        cell = self.lines[self.things_of("cell")[0] - 1].split(" ")[1]
        # All but cells are held by a list, too, so that none of them goes.
        at = self.things_of("list")[0]
        kept = ["t" + line.split(" ")[1] for line in self.lines if line.startswith("thing") and line.split(" ")[2] != "cell"]
        self.lines[at - 1] = " ".join([self.lines[at - 1], *kept])
        self.assertEqual(self.line_of("\n".join(self.lines) + "\n"), None)
        for sort in ("list", "object", "cell", "tie"):
            for at in self.things_of(sort):
                words = self.lines[at - 1].split(" ")
                self.refuse(at, " ".join([*words[:-1], "t" + cell]))
                if sort == "list":
                    self.refuse(at, " ".join([*words, "t" + cell]))
        at = self.at("gave")
        self.refuse(at, "gave t" + cell, "threw t" + cell)
        for at in [number for number, line in enumerate(self.lines, start=1) if line.startswith("pile ") and not self.lines[number - 5].startswith("waits")]:
            words = self.lines[at - 1].split(" ")
            self.refuse(at, " ".join([*words[:-1], "t" + cell]))

    def test_lines_that_lack_at_the_end(self):
        last = self.at("last")
        for many in range(len(self.lines)):
            text = "".join(line + "\n" for line in self.lines[:many])
            if many < last:
                self.assertEqual(self.line_of(text), many + 1)
            else:
                # Things that are named lack then.
                self.assertIsNotNone(self.line_of(text))
                self.assertLessEqual(self.line_of(text), many)
        self.assertEqual(self.line_of(self.image[:-1]), len(self.lines))
        self.assertEqual(self.line_of(self.image + "x"), len(self.lines) + 1)
        self.assertEqual(self.line_of(self.image + "\n"), len(self.lines) + 1)
        self.assertEqual(self.line_of(""), 1)

    def test_a_text_that_ends_amid_a_line(self):
        begins = [0]
        for line in self.lines:
            begins.append(begins[-1] + len(line) + 1)
        for at in range(1, len(self.lines)):
            self.assertEqual(self.line_of(self.image[:begins[at] - 1]), at)
            self.assertEqual(self.line_of(self.image[:begins[at - 1]] + self.lines[at - 1][:1]), at)

    def test_each_line_left_out_and_twice(self):
        for at in range(1, len(self.lines) + 1):
            without = self.changed(at)
            found = self.line_of(without)
            if found is None:
                self.assertTrue(self.lines[at - 1].startswith("said"), at)
                self.assertEqual(resumed(self.unit, without, None, ()).image(), without)
            elif self.lines[at - 1] == "ready" and self.lines[at - 2].startswith("pile"):
                # The frame ahead is followed by those of the next thread, and stands behind no call.
                self.assertEqual(found, at - 4)
            elif not self.lines[at - 1].startswith(("gave", "threw", "thing")):
                self.assertEqual(found, at)
            twice = self.changed(at, self.lines[at - 1], self.lines[at - 1])
            found = self.line_of(twice)
            if found is None:
                self.assertTrue(self.lines[at - 1].startswith("said"), at)
            elif not self.lines[at - 1].startswith(("gave", "threw")):
                self.assertEqual(found, at + 1)

    def test_each_sign_otherwise(self):
        """What is taken for an image is the image of what goes on from it."""
        chance = random.Random(7)
        for at in range(len(self.image)):
            sign = chance.choice("0123456789wt -\nx")
            text = self.image[:at] + sign + self.image[at + chance.randrange(2):]
            found = told(resumed, self.unit, text, None, ())
            if isinstance(found, Machine):
                self.assertEqual(found.image(), text)
                found.run(found.ticks() + 30 if found.ticks() < 1000 else 0)
            else:
                self.assertEqual(found[0], "BadImage")

    def test_things_that_do_not_live(self):
        last = int(self.lines[-1].split(" ")[1])
        at = self.at("last")
        self.lines[at - 1] = f"last {last + 9}"
        for line in ("list", "tie w3", f"list t{last + 1}", "text w777"):
            self.lines.append(f"thing {last + 1} {line}")
            self.assertEqual(self.line_of("\n".join(self.lines) + "\n"), len(self.lines))
            self.lines.pop()
        # A thing that is made to be held by nothing is told by its line, if nothing ahead is wrong.
        for number in self.things_of("tie"):
            words = self.lines[number - 1].split(" ")
            if words[3].startswith("t"):
                held = words[3][1:]
                holders = [line for line in self.lines if f"t{held}" in line.split(" ")[1:]]
                if len(holders) == 1:
                    line = [at for at, line in enumerate(self.lines, start=1) if line.startswith(f"thing {held} ")][0]
                    self.refuse(number, " ".join([*words[:3], "w3"]), wanted=line)


class Hand(unittest.TestCase):
    """Images that no machine writes, told by what the document asks alone."""

    def test_functions_of_code_0(self):
        unit = unit_of("var a = nil; yield(); say a;")
        image = "ticks 1\ntops t1\nqueue 0\nready\nframe 0 4\nslots\ncalls w3\npile\nlast 1\nthing 1 function w1\n"
        other = resumed(unit, image, None, ())
        other.run(9)
        self.assertEqual(other.lines(), ["function top"])

    def test_a_frame_ahead_at_row_0(self):
        """The last row is a call to which no way comes: row 0 is behind none."""
        code = Code("top", 0, 0, 0, (("tick",), ("push", ("nil",)), ("give",), ("call", 0)), ())
        unit = Unit((), (), (), (code, Code("f", 1, 1, 0, (("tick",), ("load", 0), ("give",)), ())))
        image = "ticks 1\ntops\nqueue 0\nready\nframe 0 0\nslots\ncalls w3\npile\nframe 1 0\nslots w3\ncalls t1\npile\nlast 1\nthing 1 function w9\n"
        self.assertEqual(told(resumed, unit, image, None, ()), ("BadImage", 5))

    def test_methods_that_are_called_as_functions(self):
        """The function called of a method's code is nil, or a function of this code."""
        unit = unit_of_rows(("fun", 3, ()), ("push", ("nil",)), ("call", 1), ("pop",))
        machine = Machine(unit, None, ())
        machine.run(2)
        image = machine.image()
        self.assertIn("frame 3 1\nslots w3\ncalls t4\npile\n", image)
        self.assertEqual(resumed(unit, image, None, ()).meaning(), machine.meaning())
        other = image.replace("calls t4", "calls w3").replace("thing 4 function w25\n", "")
        self.assertIsInstance(told(resumed, unit, other, None, ()), Machine)
        self.assertEqual(told(resumed, unit, image.replace("calls t4", "calls t3"), None, ()), ("BadImage", 11))

    def test_a_thread_that_waits_for_one_that_is_over(self):
        unit = unit_of("try { join(spawn(fun() { })); } catch e { say e; }")
        machine = Machine(unit, None, ())
        machine.run(2)
        image = machine.image().replace("queue 1", "queue")
        at = image.index("ready")
        image = image[:at] + "gave w3\n" + image[image.index("last"):]
        image = "".join(line + "\n" for line in image.split("\n") if line and not line.startswith("thing"))
        other = resumed(unit, image, Room(8, 30, 0), ())
        self.assertEqual(other.is_over(), False)
        other.run(9)
        self.assertEqual((other.lines(), other.is_over()), (["fault stuck"], True))


class Unset(unittest.TestCase):
    def test_slots_by_their_sorts(self):
        """Slot 0 is a cell, slot 1 a value, slot 2 one or the other."""
        rows = (("tick",), ("cell", 0), ("load", 1), ("skip", 5), ("cell", 2), ("tick",), ("push", ("nil",)), ("give",))
        unit = Unit((), (("a", None),), (), (Code("top", 0, 3, 0, rows, ()),))
        machine = Machine(unit, None, ())
        machine.run(2)
        lines = machine.image().split("\n")
        self.assertEqual(lines[5], "slots t1 w3 w3")
        ahead, behind = lines[:5], lines[6:-1]
        behind[behind.index("last 1")] = "last 3"
        behind += ["thing 2 cell w3", "thing 3 list"]

        def line_of(slots, top="t3", more=()):
            text = "\n".join([*ahead, slots, *behind, *more]) + "\n"
            text = text.replace("tops w3", "tops " + top)
            found = told(resumed, unit, text, None, ())
            return found[1] if isinstance(found, tuple) else None

        self.assertEqual(line_of("slots t1 w3 t2"), None)
        self.assertEqual(line_of("slots t1 t3 t2"), None)
        self.assertEqual(line_of("slots t2 w3 t1"), None)
        self.assertEqual(line_of("slots t1 w3 t3"), 11)
        self.assertEqual(line_of("slots t1 t1 t2"), 6)
        self.assertEqual(line_of("slots w3 t3 t2"), 6)
        self.assertEqual(line_of("slots t3 w3 t2"), 6)
        self.assertEqual(line_of("slots t1 w3 t9"), 6)
        self.assertEqual(line_of("slots t1 w3 w13"), 6)
        self.assertEqual(line_of("slots t1 w3 t2", "t2"), 2)
        self.assertEqual(line_of("slots t1 w3 w3"), 11)


if __name__ == "__main__":
    unittest.main()
