"""[4], [5], [6.1] THE FACT OF COMPILING: drawn programs run by Plain, by a second telling of the plain meaning, and,
compiled, by a machine that the tests tell."""

import unittest

from tests.drawn_programs import drawn, drawn_moments
from tests.machine_model import MachineModel
from tests.plain_model import Model
from tests.running import all_of
from unseenheap.compiling import compiled
from unseenheap.names import called_anew
from unseenheap.plain import Plain

STOPS = [*range(0, 30), 40, 60, 100, 300]


class Runs(unittest.TestCase):
    def test_three_tellings_at_each_number_of_ticks(self):
        over = 0
        for seed in range(700):
            program, moments = drawn(seed), drawn_moments(seed, 12 if seed % 2 else 60)
            plain, model, machine = Plain(program, moments), Model(program, moments), MachineModel(compiled(program), moments)
            for most in STOPS:
                plain.run(most)
                model.run(most)
                machine.run(most)
                self.assertEqual(all_of(plain), model.told(), (seed, most))
                self.assertEqual(machine.told(), model.told(), (seed, most))
            over += plain.is_over()
        self.assertGreater(over, 600)

    def test_a_switch_and_a_sweep_at_every_tick(self):
        moments = tuple((tick, deed) for tick in range(1, 200) for deed in ("switch", "sweep"))
        sweeps = tuple((tick, "sweep") for tick in range(1, 200))
        for seed in range(250):
            program = drawn(seed)
            for deeds in (moments, sweeps):
                plain, model, machine = Plain(program, deeds), Model(program, deeds), MachineModel(compiled(program), deeds)
                for most in (3, 7, 15, 40, 400):
                    plain.run(most)
                    model.run(most)
                    machine.run(most)
                    self.assertEqual(all_of(plain), model.told(), seed)
                    self.assertEqual(machine.told(), model.told(), seed)

    def test_names_of_local_variables_are_not_seen(self):
        for seed in range(150):
            program, moments = drawn(seed), drawn_moments(seed)
            one, other = Plain(program, moments), Plain(called_anew(program), moments)
            one.run(300)
            other.run(300)
            self.assertEqual(all_of(one), all_of(other))

    def test_deeds_of_the_collector_are_not_seen(self):
        for seed in range(100):
            program, moments = drawn(seed), drawn_moments(seed)
            one, other = Plain(program, moments), Plain(program, tuple(m for m in moments if m[1] in ("switch", "sweep")))
            one.run(300)
            other.run(300)
            self.assertEqual(all_of(one), all_of(other))


if __name__ == "__main__":
    unittest.main()
