"""[6] and `trimmed`."""

import itertools
import unittest

from tests import samples
from tracklay.nets import look
from tracklay.trim import trimmed

A = ("in", "a", "", ())
B = ("in", "b", "", ())
C = ("in", "c", "", ())
ZERO = ("gate", "zero", "0", ())
ONE = ("gate", "one", "1", ())
RANKS = {"in": 0, "gate": 1, "reg": 1, "out": 2}


def out(pin, name="z"):
    return ("out", name, "", (pin,))


def ends(netlist):
    return [thing[:2] for thing in netlist if thing[0] in ("in", "out")]


def come_to(netlist):
    """The names come to from outputs along pins."""
    pins_of = {thing[1]: thing[3] for thing in netlist}
    reached = set()
    fresh = {pin for thing in netlist if thing[0] == "out" for pin in thing[3]}
    while fresh:
        reached |= fresh
        fresh = {pin for name in fresh for pin in pins_of[name]} - reached
    return reached


def hangs_on(bits, many, at):
    """Whether some row of the other pins' bits makes the two bits of the pin at a place tell."""
    for row in samples.words_of_bits(many):
        turned = row[:at] + "10"[int(row[at])] + row[at + 1:]
        if bits[int(row, 2)] != bits[int(turned, 2)]:
            return True
    return False


class Trimming(unittest.TestCase):
    def check(self, netlist):
        """What is told for a netlist, held against each part of [6]."""
        told = trimmed(netlist)
        self.check_form(told)
        self.assertEqual(ends(told), ends(netlist))
        self.assertLessEqual({thing[:2] for thing in told}, {thing[:2] for thing in netlist})
        inner = [thing for thing in told if thing[0] in ("gate", "reg")]
        self.assertLessEqual({thing[1] for thing in inner}, come_to(told), (netlist, told))
        self.check_gates(told)
        self.assertEqual(trimmed(told), told)
        self.assertIsNone(samples.rows_to_part(netlist, told)[0], (netlist, told))
        return told

    def check_form(self, told):
        self.assertIs(type(told), tuple)
        for thing in told:
            self.assertEqual([type(part) for part in thing], [str, str, str, tuple])
            self.assertIs(type(thing), tuple)
        ranks = [RANKS[thing[0]] for thing in told]
        self.assertEqual(ranks, sorted(ranks))
        self.assertIsNone(look(told))

    def check_gates(self, told):
        gates = {thing[1]: thing for thing in told if thing[0] == "gate"}
        for kind, name, bits, pins in gates.values():
            self.assertEqual(len(set(pins)), len(pins), told)
            self.assertTrue(all(hangs_on(bits, len(pins), at) for at in range(len(pins))), told)
            self.assertTrue(all(gates[pin][3] for pin in pins if pin in gates), told)
            self.assertFalse(len(pins) == 1 and bits == "01", told)
        self.assertEqual(len({thing[2:] for thing in gates.values()}), len(gates), told)

    def becomes(self, netlist, told):
        self.assertEqual(self.check(netlist), told)

    def stays(self, *things):
        self.becomes(tuple(things), tuple(things))


class WhatStays(Trimming):
    def test_the_empty_netlist(self):
        self.stays()

    def test_inputs_that_nobody_reads(self):
        self.stays(A, B, C)
        self.stays(A, B, out("b"))
        self.becomes((A, B, ("gate", "g", "0001", ("a", "b")), out("a")), (A, B, out("a")))

    def test_several_outputs_of_one_thing(self):
        self.stays(A, out("a"), out("a", "y"), out("a", "x"))

    def test_ordinary(self):
        self.stays(*samples.COUNTER)
        self.becomes(samples.MIXED, (
            ("in", "a", "", ()),
            ("in", "b", "", ()),
            ("gate", "both", "0001", ("a", "other")),
            ("reg", "keep", "1", ("keep",)),
            ("gate", "other", "1001", ("b", "last")),
            ("reg", "last", "0", ("both",)),
            ("out", "x", "", ("both",)),
            ("out", "y", "", ("keep",)),
            ("out", "w", "", ("a",)),
        ))

    def test_a_gate_without_pins_that_an_output_or_a_register_reads(self):
        self.becomes((ZERO, ONE, out("one")), (ONE, out("one")))
        self.stays(ONE, ("reg", "r", "0", ("one",)), out("r"))
        self.stays(ZERO, ONE, ("reg", "r", "1", ("zero",)), out("r"), out("one", "y"))

    def test_a_gate_that_turns_its_pins_bit_about(self):
        self.stays(A, ("gate", "g", "10", ("a",)), out("g"))
        self.stays(A, ("gate", "g", "10", ("a",)), ("reg", "r", "0", ("g",)), out("r"))

    def test_a_register_that_reads_itself(self):
        self.stays(("reg", "r", "1", ("r",)), out("r"))

    def test_registers_that_are_come_to_through_registers(self):
        self.stays(A, ("reg", "r", "0", ("s",)), ("reg", "s", "0", ("g",)), ("gate", "g", "0110", ("a", "r")), out("r"))

    def test_registers_alike(self):
        self.check((A, ("reg", "r", "0", ("a",)), ("reg", "s", "0", ("a",)), out("r"), out("s", "y")))

    def test_gates_with_the_same_bits_or_the_same_pins_alone(self):
        self.stays(A, B, C, ("gate", "g", "0001", ("a", "b")), ("gate", "h", "0001", ("a", "c")),
                   ("gate", "k", "0111", ("a", "b")), out("g"), out("h", "y"), out("k", "x"))
        self.stays(A, B, ("gate", "g", "0010", ("a", "b")), ("gate", "h", "0010", ("b", "a")), out("g"), out("h", "y"))

    def test_by_name_and_asked_again(self):
        self.assertEqual(trimmed(netlist=samples.MIXED), trimmed(samples.MIXED))
        for seed in range(20):
            netlist = samples.big_netlist(seed, 2, 5, 2, 3)
            self.assertEqual(trimmed(netlist), trimmed(netlist))


class WhatGoes(Trimming):
    def test_what_no_output_comes_to(self):
        self.becomes((A, ("gate", "g", "10", ("a",)), ("reg", "r", "0", ("g",)), ("gate", "h", "10", ("r",))), (A,))
        self.becomes((A, ("gate", "g", "10", ("a",)), ("gate", "h", "10", ("g",)), out("g")),
                     (A, ("gate", "g", "10", ("a",)), out("g")))
        self.becomes((ONE, ZERO), ())

    def test_what_reads_one_another_round_through_registers(self):
        self.becomes((A, ("reg", "r", "0", ("s",)), ("reg", "s", "1", ("r",)), ("reg", "t", "1", ("t",)), out("a")),
                     (A, out("a")))
        self.becomes((A, ("gate", "g", "0110", ("a", "r")), ("reg", "r", "0", ("h",)), ("gate", "h", "10", ("g",)),
                      out("a")), (A, out("a")))

    def test_a_gate_that_does_not_hang_on_a_pin(self):
        self.becomes((A, B, ("gate", "g", "1100", ("a", "b")), out("g")),
                     (A, B, ("gate", "g", "10", ("a",)), out("g")))
        self.becomes((A, B, ("gate", "g", "1010", ("a", "b")), out("g")),
                     (A, B, ("gate", "g", "10", ("b",)), out("g")))
        self.becomes((A, B, C, ("gate", "g", "00100010", ("a", "b", "c")), out("g")),
                     (A, B, C, ("gate", "g", "0010", ("b", "c")), out("g")))
        self.becomes((A, B, C, ("gate", "g", "00001100", ("a", "b", "c")), out("g")),
                     (A, B, C, ("gate", "g", "0010", ("a", "b")), out("g")))
        self.becomes((A, B, C, ("gate", "g", "00110000", ("b", "a", "c")), out("g")),
                     (A, B, C, ("gate", "g", "0100", ("b", "a")), out("g")))

    def test_a_gate_that_hangs_on_no_pin(self):
        for many in range(1, 4):
            for bit in "01":
                pins = ("a", "b", "c")[:many]
                self.becomes((A, B, C, ("gate", "g", bit * 2 ** many, pins), out("g")),
                             (A, B, C, ("gate", "g", bit, ()), out("g")))

    def test_a_gate_with_pins_alike(self):
        self.becomes((A, ("gate", "g", "1000", ("a", "a")), out("g")), (A, ("gate", "g", "10", ("a",)), out("g")))
        self.becomes((A, ("gate", "g", "0001", ("a", "a")), out("g")), (A, out("a")))
        self.becomes((A, ("gate", "g", "0110", ("a", "a")), out("g")), (A, ("gate", "g", "0", ()), out("g")))
        self.becomes((A, ("gate", "g", "10000000", ("a", "a", "a")), out("g")),
                     (A, ("gate", "g", "10", ("a",)), out("g")))
        for pins in set(itertools.permutations("aab")):
            told = self.check((A, B, ("gate", "g", "11111110", pins), out("g")))
            self.assertEqual(sorted(told[2][3]), ["a", "b"])
            self.assertEqual(told[2][2], "1110")

    def test_a_gate_that_reads_a_gate_without_pins(self):
        gate = ("gate", "g", "0111", ("a", "zero"))
        self.becomes((A, gate, ZERO, out("g")), (A, out("a")))
        self.becomes((A, ONE, ("gate", "g", "0110", ("one", "a")), out("g")),
                     (A, ("gate", "g", "10", ("a",)), out("g")))
        self.becomes((A, ONE, ("gate", "g", "0110", ("one", "a")), out("g"), out("one", "y")),
                     (A, ONE, ("gate", "g", "10", ("a",)), out("g"), out("one", "y")))
        told = self.check((ONE, ZERO, ("gate", "g", "00100000", ("zero", "one", "zero")), out("g")))
        self.assertEqual([thing[2:] for thing in told[:-1]], [("1", ())])

    def test_a_gate_that_hands_on_its_pins_bit(self):
        self.becomes((A, ("gate", "g", "01", ("a",)), out("g")), (A, out("a")))
        self.becomes((A, ("gate", "h", "01", ("g",)), ("gate", "g", "01", ("a",)), ("reg", "r", "1", ("h",)),
                      out("r"), out("h", "y")),
                     (A, ("reg", "r", "1", ("a",)), out("r"), out("a", "y")))
        self.becomes((("reg", "r", "0", ("g",)), ("gate", "g", "01", ("r",)), out("g")),
                     (("reg", "r", "0", ("r",)), out("r")))

    def test_two_gates_of_the_same_bits_and_pins(self):
        told = self.check((A, B, ("gate", "g", "0110", ("a", "b")), ("gate", "h", "0110", ("a", "b")), out("g"),
                           out("h", "y")))
        self.assertEqual(len(told), 5)
        told = self.check((ONE, ("gate", "g", "1", ()), ("reg", "r", "0", ("one",)), out("r"), out("g", "y")))
        self.assertEqual(len(told), 4)

    def test_outputs_and_registers_that_read_what_goes(self):
        told = self.check((A, ("gate", "g", "10", ("a",)), ("gate", "h", "10", ("a",)), ("reg", "r", "0", ("g",)),
                           ("reg", "s", "0", ("h",)), out("r"), out("s", "y"), out("g", "x"), out("h", "w")))
        self.assertEqual(len(told), 8)


class OneChangeMakesAnotherDue(Trimming):
    def test_bits_that_run_down_a_chain(self):
        self.becomes((A, ("gate", "h", "0001", ("g", "a")), ("gate", "g", "11", ("f",)), ("gate", "f", "10", ("a",)),
                      out("h")), (A, out("a")))
        told = self.check((A, ZERO, ("gate", "k", "10", ("h",)), ("gate", "h", "10", ("g",)),
                           ("gate", "g", "10", ("zero",)), out("k")))
        self.assertEqual([thing[2:] for thing in told[1:-1]], [("1", ())])

    def test_gates_alike_make_gates_alike_and_pins_alike(self):
        told = self.check((A, B, ("gate", "g", "0110", ("a", "b")), ("gate", "h", "0110", ("a", "b")),
                           ("gate", "k", "10", ("g",)), ("gate", "m", "10", ("h",)), out("k"), out("m", "y")))
        self.assertEqual(len(told), 6)
        told = self.check((A, B, ("gate", "g", "0110", ("a", "b")), ("gate", "h", "0110", ("a", "b")),
                           ("gate", "k", "0110", ("g", "h")), out("k")))
        self.assertEqual(told, (A, B, ("gate", "k", "0", ()), out("k")))

    def test_a_handed_on_bit_makes_gates_and_pins_alike(self):
        self.becomes((A, ("gate", "h", "1001", ("a", "g")), ("gate", "g", "01", ("a",)), out("h")),
                     (A, ("gate", "h", "1", ()), out("h")))
        told = self.check((A, B, ("gate", "f", "01", ("b",)), ("gate", "g", "0001", ("a", "b")),
                           ("gate", "h", "0001", ("a", "f")), out("g"), out("h", "y")))
        self.assertEqual(len(told), 5)

    def test_what_was_read_by_what_goes(self):
        self.becomes((A, ("gate", "g", "0011", ("a", "h")), ("gate", "h", "10", ("r",)), ("reg", "r", "0", ("h",)),
                      out("g")), (A, out("a")))

    def test_chains_at_the_bounds(self):
        for told_order in (1, -1):
            names = "abcdefgh"
            gates = [("gate", name, "01", (names[at - 1] if at else "i",)) for at, name in enumerate(names)]
            self.becomes((("in", "i", "", ()), *gates[::told_order], out("h")), (("in", "i", "", ()), out("i")))
            gates = [("gate", name, "0110", (names[at - 1] if at else "i", "i")) for at, name in enumerate(names)]
            self.check((("in", "i", "", ()), *gates[::told_order], out("h")))


class AllOf(Trimming):
    def test_all_gates_of_three_pins(self):
        inputs = (A, B, C)
        for bits in samples.words_of_bits(8):
            self.check((*inputs, ("gate", "g", bits, ("a", "b", "c")), out("g")))

    def test_all_gates_of_pins_alike_and_fixed(self):
        readable = ("a", "b", "zero", "one")
        for bits in samples.words_of_bits(4):
            for pins in itertools.product(readable, repeat=2):
                self.check((A, B, ZERO, ONE, ("gate", "g", bits, pins), out("g")))
        for at, bits in enumerate(samples.words_of_bits(8)):
            for pins in list(itertools.product(readable, repeat=3))[at % 5::5]:
                self.check((A, B, ZERO, ("gate", "g", bits, pins), ONE, out("g")))

    def test_all_pairs_of_gates_of_one_and_two_pins(self):
        for first in samples.words_of_bits(4):
            for second in samples.words_of_bits(4):
                for pins in (("a", "g"), ("g", "g"), ("a", "b")):
                    self.check((A, B, ("gate", "h", second, pins), ("gate", "g", first, ("a", "b")), out("h"),
                                out("g", "y")))

    def test_some(self):
        for seed in range(300):
            self.check(samples.some_netlist(seed))

    def test_at_the_bounds(self):
        for counts in ((4, 4, 4, 0), (4, 0, 4, 4), (4, 2, 2, 4), (0, 4, 4, 4), (1, 4, 4, 3), (4, 4, 0, 4),
                       (0, 8, 0, 4), (1, 8, 0, 3), (2, 6, 2, 2), (3, 5, 2, 2)):
            for seed in range(12):
                self.check(samples.big_netlist(seed, *counts))

    def test_plain_ones_at_the_bounds(self):
        for counts in ((4, 0, 0, 0), (0, 8, 0, 0), (0, 4, 4, 0), (1, 0, 0, 4), (4, 4, 0, 4), (4, 0, 4, 4),
                       (0, 8, 0, 4), (0, 4, 4, 4), (4, 4, 4, 0)):
            self.check(samples.sized(*counts))

    def test_more_than_a_good_netlist_has(self):
        names = ["a" + letter for letter in "abcdefghijklmnop"]
        gates = [("gate", name, "01", (names[at - 1] if at else "i",)) for at, name in enumerate(names)]
        self.assertEqual(trimmed((("in", "i", "", ()), *gates, out(names[-1]))), (("in", "i", "", ()), out("i")))


if __name__ == "__main__":
    unittest.main()
