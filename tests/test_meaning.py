"""[4], `begun`, `cycle` and `run`."""

import unittest

from tests import samples
from tests.samples import COUNTER, count
from tracklay.meaning import begun, cycle, run


class Begun(unittest.TestCase):
    def test_in_the_order_of_registers(self):
        self.assertEqual(begun(samples.MIXED), "10")
        self.assertEqual(begun(netlist=COUNTER), "00")
        self.assertEqual(begun(tuple(("reg", name, bit, ("a",)) for name, bit in zip("abcd", "0110"))), "0110")

    def test_no_registers(self):
        self.assertEqual(begun(()), "")
        self.assertEqual(begun((("in", "a", "", ()), ("gate", "g", "1", ()))), "")


class Cycle(unittest.TestCase):
    def gate_tells(self, bits, pins, row):
        inputs = tuple(("in", name, "", ()) for name in "abc")
        netlist = inputs + (("gate", "g", bits, tuple(pins)), ("out", "z", "", ("g",)))
        return cycle(netlist, "", row)

    def test_gates_of_none_to_three_pins(self):
        for row in samples.words_of_bits(3):
            for at in range(8):
                bits = "0" * at + "1" + "0" * (7 - at)
                self.assertEqual(self.gate_tells(bits, "abc", row), ("01"[int(row, 2) == at], ""))
            for at in range(4):
                bits = "0" * at + "1" + "0" * (3 - at)
                self.assertEqual(self.gate_tells(bits, "ab", row), ("01"[int(row[:2], 2) == at], ""))
            self.assertEqual(self.gate_tells("01", "c", row), (row[2], ""))
            self.assertEqual(self.gate_tells("10", "b", row), ("10"[int(row[1])], ""))
            self.assertEqual(self.gate_tells("0", "", row), ("0", ""))
            self.assertEqual(self.gate_tells("1", "", row), ("1", ""))

    def test_the_first_pin_leads(self):
        self.assertEqual(self.gate_tells("0010", "ab", "100"), ("1", ""))
        self.assertEqual(self.gate_tells("0010", "ba", "100"), ("0", ""))
        self.assertEqual(self.gate_tells("00001000", "cab", "001"), ("1", ""))
        self.assertEqual(self.gate_tells("01000000", "cab", "001"), ("0", ""))

    def test_pins_that_read_one_thing(self):
        self.assertEqual(self.gate_tells("0110", "aa", "100"), ("0", ""))
        self.assertEqual(self.gate_tells("0001", "aa", "100"), ("1", ""))
        self.assertEqual(self.gate_tells("00000100", "aba", "100"), ("1", ""))

    def test_gates_told_ahead_of_those_that_they_read(self):
        netlist = (("in", "a", "", ()), ("gate", "g", "10", ("h",)), ("gate", "h", "10", ("k",)),
                   ("gate", "k", "10", ("a",)), ("out", "z", "", ("g",)))
        self.assertEqual(cycle(netlist, "", "0"), ("1", ""))
        self.assertEqual(cycle(netlist, "", "1"), ("0", ""))

    def test_a_register_tells_what_it_holds_and_then_holds_its_pins(self):
        netlist = (("in", "a", "", ()), ("reg", "r", "0", ("a",)), ("out", "z", "", ("r",)))
        for held in "01":
            for row in "01":
                self.assertEqual(cycle(netlist, held, row), (held, row))

    def test_registers_hold_at_once(self):
        netlist = (("reg", "r", "0", ("s",)), ("reg", "s", "1", ("r",)), ("out", "z", "", ("r",)))
        self.assertEqual(cycle(netlist, "01", ""), ("0", "10"))
        self.assertEqual(cycle(netlist, "10", ""), ("1", "01"))

    def test_a_register_that_reads_itself(self):
        netlist = (("reg", "r", "0", ("r",)), ("out", "z", "", ("r",)))
        self.assertEqual(cycle(netlist, "1", ""), ("1", "1"))
        self.assertEqual(cycle(netlist, "0", ""), ("0", "0"))

    def test_inputs_in_their_order(self):
        netlist = tuple(("in", name, "", ()) for name in "dcab")
        netlist += tuple(("out", name, "", (pin,)) for name, pin in zip("wxyz", "abcd"))
        self.assertEqual(cycle(netlist, "", "1000"), ("0001", ""))
        self.assertEqual(cycle(netlist, "", "0110"), ("1010", ""))

    def test_registers_mixed_with_gates(self):
        self.assertEqual(cycle(samples.MIXED, "10", "10"), ("111", "11"))
        self.assertEqual(cycle(samples.MIXED, "01", "10"), ("001", "00"))
        self.assertEqual(cycle(samples.MIXED, "11", "11"), ("111", "11"))

    def test_nothing_at_all(self):
        self.assertEqual(cycle((), "", ""), ("", ""))

    def test_no_outputs(self):
        self.assertEqual(cycle((("in", "a", "", ()), ("reg", "r", "0", ("a",))), "0", "1"), ("", "1"))

    def test_no_inputs_and_no_registers(self):
        self.assertEqual(cycle((("gate", "g", "1", ()), ("out", "z", "", ("g",))), "", ""), ("1", ""))

    def test_by_names_and_kinds_of_values(self):
        told = cycle(row="1", held="11", netlist=COUNTER)
        self.assertEqual(told, ("111", "00"))
        self.assertIs(type(told), tuple)
        self.assertEqual([type(part) for part in told], [str, str])

    def test_some(self):
        for seed in range(150):
            netlist = samples.some_netlist(seed)
            for held in samples.words_of_bits(count(netlist, "reg")):
                for row in samples.words_of_bits(count(netlist, "in")):
                    self.assertEqual(cycle(netlist, held, row), samples.cycle_by_definition(netlist, held, row))

    def test_more_than_a_good_netlist_has(self):
        names = ["a" + letter for letter in "abcdefghijklmnopqrst"]
        netlist = tuple(("reg", name, "0", (names[at - 1],)) for at, name in enumerate(names))
        self.assertEqual(cycle(netlist, "1" + "0" * 19, ""), ("", "01" + "0" * 18))


class Run(unittest.TestCase):
    def test_from_the_beginning(self):
        told = ["001", "011", "101", "111", "000", "001"]
        rows = ["1", "1", "1", "1", "0", "1"]
        self.assertEqual(run(COUNTER, rows), told)
        self.assertEqual(run(COUNTER, rows, None), told)
        self.assertEqual(run(COUNTER, rows, "00"), told)
        self.assertEqual(run(netlist=COUNTER, rows=rows), told)

    def test_from_a_beginning_of_ones(self):
        netlist = (("in", "a", "", ()), ("reg", "r", "1", ("a",)), ("out", "z", "", ("r",)))
        self.assertEqual(run(netlist, ["0", "1", "0"]), ["1", "0", "1"])
        self.assertEqual(run(netlist, ["0", "1", "0"], "0"), ["0", "0", "1"])

    def test_from_held_bits(self):
        self.assertEqual(run(COUNTER, ["1", "0", "1"], "11"), ["111", "000", "001"])
        self.assertEqual(run(COUNTER, ["0"], "01"), ["100"])
        self.assertEqual(run(held="10", rows=["0"], netlist=COUNTER), ["010"])

    def test_no_rows(self):
        self.assertEqual(run(COUNTER, []), [])
        self.assertEqual(run((), []), [])

    def test_no_inputs(self):
        flip = (("reg", "r", "0", ("g",)), ("gate", "g", "10", ("r",)), ("out", "z", "", ("r",)))
        self.assertEqual(run(flip, [""] * 5), ["0", "1", "0", "1", "0"])

    def test_no_registers(self):
        netlist = (("in", "a", "", ()), ("gate", "g", "10", ("a",)), ("out", "z", "", ("g",)))
        self.assertEqual(run(netlist, ["0", "1"]), ["1", "0"])
        self.assertEqual(run(netlist, ["0", "1"], ""), ["1", "0"])
        self.assertEqual(run(netlist, ["0", "1"], None), ["1", "0"])

    def test_no_outputs(self):
        self.assertEqual(run((("in", "a", "", ()),), ["0", "1"]), ["", ""])

    def test_a_run_and_its_rest(self):
        for seed in range(60):
            netlist = samples.some_netlist(seed)
            rows = samples.words_of_bits(count(netlist, "in")) * 2
            whole = run(netlist, rows)
            self.assertEqual(len(whole), len(rows))
            held = begun(netlist)
            for at, row in enumerate(rows):
                self.assertEqual(run(netlist, rows[at:], held), whole[at:])
                told, held = cycle(netlist, held, row)
                self.assertEqual(told, whole[at])

    def test_handed_and_told_lists(self):
        rows = ["1", "0", "1"]
        told = run(COUNTER, rows)
        self.assertIs(type(told), list)
        self.assertEqual(rows, ["1", "0", "1"])
        again = list(told)
        told.append("no")
        told[0] = "no"
        self.assertEqual(run(COUNTER, rows), again)
        self.assertEqual(rows, ["1", "0", "1"])


if __name__ == "__main__":
    unittest.main()
