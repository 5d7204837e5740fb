"""[10.1] to [10.3], [6.1], [8.4], [11.11] THE MAIN FACT: machines in rooms of all kinds and in none, with deeds of the
collector at each tick, beside the plain run and a machine that the tests tell."""

import random
import unittest

from tests.drawn_programs import drawn, drawn_moments
from tests.drawn_units import drawn_unit, level_unit
from tests.machine_model import MachineModel
from tests.machine_runs import ROOMS, all_told, drawn_deeds, machines_for, with_ticks, without_collecting
from tests.running import all_of
from tests.told import told
from unseenheap.compiling import compiled
from unseenheap.examine import is_let, table
from unseenheap.layouts import broken, meaning_of
from unseenheap.machine import Machine
from unseenheap.plain import Plain
from unseenheap.rooms import Room


class Runs(unittest.TestCase):
    def check_layout(self, machine, meaning):
        layout, rows = machine.layout()
        self.assertEqual(broken(layout), ())
        _, _, tops, threads, _, things = meaning
        many = len(machine.core.plan.unit.texts)
        wanted = [many, len(tops)]
        values = [("thing", number) for number in range(1, many + 1)] + list(tops)
        for state, frames in threads:
            before = len(values)
            values += state[1:] if state[0] in ("gave", "threw") else ()
            for _, _, slots, function, pile in frames:
                values += [*slots, function, *pile]
            wanted.append(len(values) - before)
        self.assertEqual(rows, tuple(wanted))
        self.assertEqual([number for number, _ in layout.roots], list(range(len(values))))
        handles, living = meaning_of(layout)
        for value, (_, worth) in zip(values, handles):
            self.assertEqual(value if value[0] == "thing" else None, worth if worth[0] == "thing" else None)
        self.assertEqual([thing[:2] for thing in living], [thing[:2] for thing in things])

    def check_table(self, unit, tables, meaning):
        """Each call's pile and slots are as the table tells of its row."""
        _, _, _, threads, _, things = meaning
        cells = {number for number, sort, _ in things if sort == "cell"}
        for _, frames in threads:
            for at, (code, row, slots, _, pile) in enumerate(frames):
                depth, sorts = tables[code][row]
                self.assertEqual(len(pile), depth if at == len(frames) - 1 else depth - 1)
                self.assertEqual(len(slots), len(sorts))
                for value, sort in zip(slots, sorts):
                    is_cell = value[0] == "thing" and value[1] in cells
                    self.assertTrue(sort == "unset" or is_cell == (sort == "cell"))

    def run_beside(self, unit, moments, most, plain=None, rooms=ROOMS):
        model = MachineModel(unit, moments)
        machines = machines_for(unit, moments, rooms)
        tables = table(unit)
        for ticks in range(most):
            model.run(ticks)
            wanted = model.meaning()
            for at, machine in enumerate(machines):
                self.assertIs(machine.run(ticks), None)
                self.assertEqual(machine.meaning(), wanted, (ticks, at))
            self.assertEqual(all_told(machines[ticks % len(machines)]), model.told())
            if ticks % 4 == 0:
                machine = machines[2 + ticks // 4 % (len(machines) - 2)]
                self.check_layout(machine, wanted)
                self.check_table(unit, tables, wanted)
                self.assertEqual(machine.image(), model.image())
            if plain is not None:
                plain.run(ticks)
                self.assertEqual(all_of(plain), model.told())
            if model.is_over():
                break
        return model

    def test_drawn_programs(self):
        for seed in range(120):
            program = drawn(seed)
            moments = drawn_moments(seed)
            self.run_beside(compiled(program), moments, 60, Plain(program, moments))

    def test_deeds_between_all_rows(self):
        for seed in range(1000, 1040):
            unit = with_ticks(compiled(drawn(seed)))
            self.assertIs(is_let(unit), True)
            self.run_beside(unit, drawn_deeds(seed, 250, 0.04), 250)

    def test_drawn_units(self):
        many = 0
        for seed in range(1500):
            for unit in (drawn_unit(seed), level_unit(seed)):
                if is_let(unit) and seed % 2:
                    self.run_beside(unit, drawn_deeds(seed, 12), 12)
                    many += 1
                elif is_let(unit):
                    self.run_beside(with_ticks(unit), drawn_deeds(seed, 30), 30, rooms=(Room(8, 400, seed % 3), Room(30, 400, 0)))
                    many += 1
        self.assertGreater(many, 400)

    def test_rooms_that_hold_what_lives_and_such_that_do_not(self):
        """A machine is full just if what lives and the new thing are more than the room; till then it means the same."""
        full = over = 0
        for seed in range(150):
            chance = random.Random(seed)
            unit = compiled(drawn(seed))
            moments = drawn_deeds(seed, 60)
            room = Room(chance.choice([8, 10, 20]), chance.choice([20, 30, 45, 60, 80]), chance.choice([0, 1, 3]))
            endless = Machine(unit, None, without_collecting(moments))
            machine = told(Machine, unit, room, moments)
            ticks = 0
            while isinstance(machine, Machine) and ticks < 60:
                endless.run(ticks)
                found = told(machine.run, ticks)
                if found is not None:
                    machine = found
                    break
                self.assertEqual(machine.meaning(), endless.meaning())
                _, _, _, _, _, things = machine.meaning()
                filled = sum(len(parts) + 2 for _, _, parts in things)
                self.assertLessEqual(filled, room.old)
                self.check_layout(machine, machine.meaning())
                ticks += 1
            if isinstance(machine, Machine):
                over += 1
            else:
                self.assertEqual(machine[0], "HeapFull")
                full += 1
        self.assertGreater(full, 20)
        self.assertGreater(over, 20)

    def test_in_pieces_and_at_once(self):
        for seed in range(40):
            unit = compiled(drawn(seed))
            moments = drawn_moments(seed)
            chance = random.Random(seed)
            at_once, pieces = Machine(unit, ROOMS[1], moments), Machine(unit, ROOMS[1], moments)
            at_once.run(50)
            ticks = 0
            while ticks < 50:
                ticks += chance.randrange(4)
                pieces.run(min(ticks, 50))
                pieces.run(chance.randrange(min(ticks, 50) + 1))
            self.assertEqual(pieces.meaning(), at_once.meaning())
            self.assertEqual(pieces.layout(), at_once.layout())
            self.assertEqual(pieces.counts(), at_once.counts())

    def test_copies_go_on_apart(self):
        for seed in range(40):
            unit = compiled(drawn(seed))
            moments = drawn_deeds(seed, 40)
            for room in (None, ROOMS[seed % 4]):
                machine, reference = Machine(unit, room, moments), Machine(unit, room, moments)
                for ticks in range(0, 30, 3):
                    machine.run(ticks)
                    other = machine.copy()
                    self.assertIs(type(other), Machine)
                    before = (machine.meaning(), machine.counts(), told(machine.layout))
                    self.assertEqual((other.meaning(), other.counts(), told(other.layout)), before)
                    other.run(40)
                    self.assertEqual((machine.meaning(), machine.counts(), told(machine.layout)), before)
                    reference.run(40)
                    self.assertEqual(other.meaning(), reference.meaning())
                    self.assertEqual(all_told(other), all_told(reference))
                    if ticks % 2:
                        machine = machine.copy()


if __name__ == "__main__":
    unittest.main()
