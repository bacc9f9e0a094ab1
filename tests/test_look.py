"""[3] and `look`."""

import itertools
import unittest

from tests import samples
from tracklay.errors import BadBits, BadName, NoThing, Ring, Taken, TooBig
from tracklay.nets import look

A = ("in", "a", "", ())
G = ("gate", "g", "01", ("a",))
R = ("reg", "r", "0", ("a",))
Z = ("out", "z", "", ("a",))


class Good(unittest.TestCase):
    def good(self, *things):
        self.assertIsNone(look(tuple(things)))

    def test_empty(self):
        self.good()

    def test_ordinary(self):
        self.good(*samples.MIXED)
        self.assertIsNone(look(netlist=samples.MIXED))

    def test_some(self):
        for seed in range(200):
            self.good(*samples.some_netlist(seed))

    def test_at_the_bounds(self):
        for counts in ((4, 0, 0, 0), (0, 8, 0, 0), (0, 4, 4, 0), (0, 0, 4, 0), (1, 0, 0, 4), (4, 4, 0, 4),
                       (4, 0, 4, 4), (0, 8, 0, 4), (0, 4, 4, 4), (4, 8, 0, 0), (4, 4, 4, 0), (0, 1, 0, 4)):
            with self.subTest(counts):
                self.good(*samples.sized(*counts))

    def test_names_at_the_bounds(self):
        for name in ("a", "z", "abcdefgh", "zzzzzzzz", "in", "gate", "out"):
            self.good(("in", name, "", ()))

    def test_gates_of_each_number_of_pins(self):
        self.good(A, ("gate", "k", "1", ()), G, ("gate", "h", "0110", ("a", "g")),
                  ("gate", "j", "01010101", ("k", "h", "a")))

    def test_pins_that_read_one_thing(self):
        self.good(A, ("gate", "g", "0110", ("a", "a")), ("gate", "h", "01100110", ("g", "a", "g")))

    def test_gates_and_registers_mixed(self):
        self.good(A, G, R, ("gate", "h", "10", ("r",)), ("reg", "s", "1", ("h",)), Z)

    def test_outputs_of_one_thing(self):
        self.good(A, Z, ("out", "y", "", ("a",)))

    def test_a_register_reads_itself(self):
        self.good(("reg", "r", "1", ("r",)))

    def test_registers_read_one_another(self):
        self.good(("reg", "r", "1", ("s",)), ("reg", "s", "0", ("r",)))

    def test_a_way_round_through_a_register(self):
        self.good(("gate", "g", "10", ("r",)), ("reg", "r", "0", ("g",)))
        self.good(("gate", "g", "10", ("r",)), ("gate", "h", "10", ("g",)), ("reg", "r", "0", ("h",)))


class Refused(unittest.TestCase):
    def refused(self, kind, *things):
        with self.assertRaises(kind) as caught:
            look(tuple(things))
        self.assertIs(type(caught.exception), kind)
        return caught.exception

    def test_names_of_no_form(self):
        for name in ("", "abcdefghi", "A", "aB", "a1", "1", "a_b", "a b", " a", "a ", "-", "a\n", "\n", "{", "`",
                     "\u00e4", "\u00df", "\u0430", "abcdefgh "):
            with self.subTest(name):
                self.refused(BadName, ("in", name, "", ()))
                self.refused(BadName, A, ("gate", name, "1", ()))
                self.refused(BadName, A, ("reg", name, "1", ("a",)))
                self.refused(BadName, A, ("out", name, "", ("a",)))

    def test_names_that_are_no_text(self):
        for name in (None, 1, True, b"a", ("a",)):
            with self.subTest(name):
                self.refused(BadName, ("in", name, "", ()))

    def test_names_twice(self):
        things = {"in": A, "gate": ("gate", "a", "1", ()), "reg": ("reg", "a", "1", ("a",)),
                  "out": ("out", "a", "", ("a",))}
        for one, other in itertools.combinations_with_replacement(("in", "gate", "reg", "out"), 2):
            with self.subTest((one, other)):
                self.refused(Taken, things[one], things[other])
                self.refused(Taken, things[one], *[row for row in (Z,) if other != "out"], things[other])

    def test_bits_that_do_not_fit(self):
        pins = ("a", "a", "a")
        for many, length in itertools.product(range(4), range(10)):
            if length != 2 ** many:
                with self.subTest(pins=many, bits=length):
                    self.refused(BadBits, A, ("gate", "g", "0" * length, pins[:many]))
        for length in (0, 2, 3, 4, 8):
            self.refused(BadBits, A, ("reg", "r", "1" * length, ("a",)))

    def test_bits_of_another_sign(self):
        for bits in ("2", "x", " ", "-", "\n", "\u0661"):
            with self.subTest(bits):
                self.refused(BadBits, ("gate", "g", bits, ()))
                self.refused(BadBits, A, ("reg", "r", bits, ("a",)))
                self.refused(BadBits, A, ("gate", "g", "0" + bits, ("a",)))
                self.refused(BadBits, A, ("gate", "g", bits + "001", ("a", "a")))

    def test_bits_of_inputs_and_outputs(self):
        for bits in ("0", "1", "01", " "):
            self.refused(BadBits, ("in", "a", bits, ()))
            self.refused(BadBits, A, ("out", "z", bits, ("a",)))

    def test_pins_of_another_number(self):
        for many in (1, 2, 3, 4):
            self.refused(BadBits, A, ("in", "b", "", ("a",) * many))
        for many in (0, 2, 3, 4):
            self.refused(BadBits, A, ("reg", "r", "1", ("a",) * many))
            self.refused(BadBits, A, ("out", "z", "", ("a",) * many))
        for many in (4, 5):
            self.refused(BadBits, A, ("gate", "g", "0" * 2 ** many, ("a",) * many))
            self.refused(BadBits, A, ("gate", "g", "00000000", ("a",) * many))

    def test_more_than_the_bounds(self):
        for counts in ((5, 0, 0, 0), (0, 9, 0, 0), (0, 0, 5, 0), (0, 5, 4, 0), (0, 3, 5, 0), (1, 0, 0, 5),
                       (4, 8, 0, 1), (1, 8, 0, 4), (4, 5, 0, 4), (4, 1, 4, 4), (1, 4, 4, 4), (4, 4, 4, 4)):
            with self.subTest(counts):
                self.refused(TooBig, *samples.sized(*counts))

    def test_pins_of_nobody(self):
        for pin in ("n", "", "A", "abcdefghi", "aa"):
            with self.subTest(pin):
                self.assertEqual(self.refused(NoThing, A, ("gate", "g", "01", (pin,))).name, pin)
                self.assertEqual(self.refused(NoThing, A, ("reg", "r", "0", (pin,))).name, pin)
                self.assertEqual(self.refused(NoThing, A, ("out", "y", "", (pin,))).name, pin)

    def test_pins_of_outputs(self):
        self.assertEqual(self.refused(NoThing, A, ("gate", "g", "01", ("z",)), Z).name, "z")
        self.assertEqual(self.refused(NoThing, A, ("reg", "r", "1", ("z",)), Z).name, "z")
        self.assertEqual(self.refused(NoThing, A, Z, ("out", "y", "", ("z",))).name, "z")
        self.assertEqual(self.refused(NoThing, ("out", "z", "", ("z",))).name, "z")

    def test_the_first_pin_of_the_first_thing(self):
        gone = ("gate", "g", "0001", ("m", "n"))
        self.assertEqual(self.refused(NoThing, A, gone).name, "m")
        self.assertEqual(self.refused(NoThing, A, ("gate", "g", "0001", ("a", "n"))).name, "n")
        self.assertEqual(self.refused(NoThing, A, R, ("reg", "s", "0", ("k",)), gone).name, "k")
        self.assertEqual(self.refused(NoThing, A, gone, ("out", "y", "", ("k",))).name, "m")
        self.assertEqual(self.refused(NoThing, A, G, Z, ("out", "y", "", ("k",))).name, "k")


class Rings(unittest.TestCase):
    def ring(self, netlist):
        with self.assertRaises(Ring) as caught:
            look(netlist)
        told = caught.exception.ring
        self.assertIs(type(told), tuple)
        self.assertTrue(told)
        self.assertEqual(len(set(told)), len(told))
        gates = {name: pins for kind, name, bits, pins in netlist if kind == "gate"}
        for at, name in enumerate(told):
            self.assertIn(told[at - 1], gates[name])
        return told

    def test_a_gate_that_reads_itself(self):
        self.assertEqual(self.ring((A, ("gate", "g", "0001", ("a", "g")))), ("g",))

    def test_two_gates(self):
        self.assertEqual(set(self.ring((samples.gate_of("g", "h"), samples.gate_of("h", "g")))), {"g", "h"})

    def test_a_ring_is_told_in_the_way_in_which_bits_go(self):
        netlist = (samples.gate_of("p", "r"), samples.gate_of("q", "p"), samples.gate_of("r", "q"))
        self.assertIn(self.ring(netlist), (("p", "q", "r"), ("q", "r", "p"), ("r", "p", "q")))

    def test_eight_gates(self):
        names = "cdefghij"
        netlist = tuple(samples.gate_of(name, names[at - 1]) for at, name in enumerate(names))
        self.assertEqual(set(self.ring(netlist)), set(names))

    def test_gates_around_a_ring_are_not_in_it(self):
        netlist = (A, samples.gate_of("g", "m"), samples.gate_of("m", "an"), samples.gate_of("n", "ma"),
                   samples.gate_of("k", ("a",)), ("out", "z", "", ("g",)))
        self.assertEqual(set(self.ring(netlist)), {"m", "n"})

    def test_a_ring_beside_a_way_round_through_a_register(self):
        netlist = (samples.gate_of("g", "rh"), samples.gate_of("h", "g"), ("reg", "r", "0", ("g",)))
        self.assertEqual(set(self.ring(netlist)), {"g", "h"})

    def test_all_of_three_gates(self):
        found = 0
        for netlist in samples.three_gates():
            if samples.has_ring(netlist):
                self.ring(netlist)
                found += 1
            else:
                self.assertIsNone(look(netlist))
        # Of the 512 netlists 25 have none: so many ways there are to order three things by arrows.
        self.assertEqual(found, 512 - 25)

    def test_the_same_ring_again(self):
        for netlist in samples.three_gates():
            if samples.has_ring(netlist):
                self.assertEqual(self.ring(netlist), self.ring(netlist))


class WhichComesFirst(unittest.TestCase):
    def first(self, kind, *things):
        with self.assertRaises(kind) as caught:
            look(tuple(things))
        self.assertIs(type(caught.exception), kind)
        return caught.exception

    def test_within_one_thing(self):
        self.first(BadName, ("in", "A", "", ()), ("gate", "A", "2", ("n",)))
        self.first(BadName, A, ("gate", "A", "2", ("n",)))
        self.first(Taken, A, ("gate", "a", "2", ("n",)))
        self.first(BadBits, A, ("gate", "g", "2", ("n",)))

    def test_by_the_place_of_the_thing(self):
        bad_name = ("gate", "G", "1", ())
        taken = ("gate", "a", "1", ())
        bad_bits = ("gate", "h", "11", ())
        faults = {BadName: bad_name, Taken: taken, BadBits: bad_bits}
        for one, other in itertools.permutations(faults, 2):
            with self.subTest((one, other)):
                self.first(one, A, faults[one], faults[other])
                self.first(one, A, G, faults[one], R, faults[other], Z)

    def test_a_name_is_taken_at_the_later_thing(self):
        self.first(BadBits, A, ("gate", "g", "11", ()), ("gate", "a", "1", ()))
        self.first(BadName, A, ("gate", "", "1", ()), ("gate", "a", "1", ()))

    def test_things_ahead_of_the_size(self):
        many = samples.sized(4, 8, 0, 4)
        self.first(BadName, *many, ("out", "Q", "", ("a",)))
        self.first(Taken, *many, many[-1])
        self.first(BadBits, *many, ("out", "q", "1", ("a",)))

    def test_things_ahead_of_pins_and_rings(self):
        loop = ("gate", "q", "01", ("q",))
        loose = ("gate", "r", "01", ("nobody",))
        self.first(BadName, loop, loose, ("out", "Z", "", ("q",)))
        self.first(Taken, loop, loose, ("out", "q", "", ("q",)))
        self.first(BadBits, loop, loose, ("out", "z", "0", ("q",)))

    def test_the_size_ahead_of_pins_and_rings(self):
        self.first(TooBig, *samples.sized(5, 0, 0, 0), ("gate", "q", "01", ("nobody",)))
        self.first(TooBig, *samples.sized(5, 0, 0, 0), ("gate", "q", "01", ("q",)))

    def test_pins_ahead_of_rings(self):
        loop = ("gate", "g", "01", ("g",))
        told = self.first(NoThing, loop, ("out", "z", "", ("nobody",)))
        self.assertEqual(told.name, "nobody")


if __name__ == "__main__":
    unittest.main()
