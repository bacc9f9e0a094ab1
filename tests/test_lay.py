"""[1], [19], [20]: layings of a bench, what runs on them, and what they keep."""

import random
import time
import unittest

from tests import samples
from tests.benches import FLIP, bench_of_netlist, bench_with, check_laying
from tests.images import tile
from tests.model import everything
from tracklay import errors
from tracklay.image import patch, patched


class Lay(unittest.TestCase):
    def test_ordinary(self):
        bench = bench_with(*FLIP)
        self.assertIs(bench.stale(), True)
        self.assertIsNone(bench.lay())
        check_laying(self, bench, 8, 3)
        self.assertEqual(bench.held(), "0")
        self.assertEqual([type(worth) for worth in bench.laid()], [tuple, tuple, list])

    def test_of_nothing(self):
        bench = bench_with(("lay",), slots=2, tracks=1)
        check_laying(self, bench, 2, 1)
        self.assertEqual(bench.laid(), ((), (-1, -1), []))
        self.assertEqual((bench.image(), bench.sheet(), bench.held()), (["0" * 25] * 2, ("", ""), ""))
        self.assertEqual((bench.delay(), bench.change(), bench.cycle()), ((0, ()), [], ""))

    def test_keeps_pegs(self):
        bench = bench_with(*FLIP, ("peg", "told", 0), ("peg", "go", 7), ("lay",))
        check_laying(self, bench, 8, 3)
        self.assertEqual((bench.sheet()[0], bench.sheet()[7]), ("told", "go"))
        bench.unpeg("told")
        bench.peg("now", 0)
        self.assertEqual(bench.sheet()[0], "told")
        bench.lay()
        check_laying(self, bench, 8, 3)
        self.assertEqual((bench.sheet()[0], bench.sheet()[7]), ("now", "go"))

    def test_stale(self):
        bench = bench_with(*FLIP, ("lay",))
        for deed, told in ((("peg", "go", 1), False), (("cycle", "1"), False), (("bits", "next", "1001"), True),
                           (("bits", "next", "0110"), False), (("wire", "told", 0, "next"), True), (("lay",), False),
                           (("free", "go"), False), (("input", "more"), True), (("drop", "more"), False),
                           (("drop", "told"), True), (("lay",), False)):
            bench.deed(deed)
            self.assertIs(bench.stale(), told, deed)

    def test_full_and_small_netlists(self):
        chance = random.Random(1)
        for seed in range(40):
            netlist = samples.some_netlist(seed)
            slots = max(1, len(netlist)) + chance.randrange(3)
            bench = bench_of_netlist(netlist, slots, 6)
            for name in chance.sample([thing[1] for thing in netlist], min(2, len(netlist))):
                bench.peg(name, chance.choice([slot for slot in range(slots) if slot not in dict(bench.pegs()).values()]))
            least = bench.least()
            if least > 6:
                with self.assertRaises(errors.NoRoom):
                    bench.lay()
                continue
            bench.lay()
            check_laying(self, bench, slots, 6)
            self.run_along(chance, bench, 6)

    def run_along(self, chance, bench, many):
        """Cycles tell what the laid netlist does."""
        netlist = bench.laid()[0]
        held = bench.held()
        for _ in range(many):
            row = "".join(chance.choice("01") for _ in range(samples.count(netlist, "in")))
            told, held = samples.cycle_by_definition(netlist, held, row)
            self.assertEqual(bench.cycle(row), told)
            self.assertEqual(bench.held(), held)

    def test_inputs_and_outputs_in_the_netlists_order_wherever_they_lie(self):
        bench = bench_with(("input", "a"), ("input", "b"), ("output", "y", "a"), ("output", "z", "b"), ("peg", "b", 0),
                           ("peg", "z", 1), ("peg", "a", 2), ("peg", "y", 3), ("register", "p", "1", "p"),
                           ("register", "q", "0", "q"), ("peg", "q", 4), ("peg", "p", 5), ("lay",))
        self.assertEqual(bench.sheet(), ("b", "z", "a", "y", "q", "p", "", ""))
        self.assertEqual(bench.cycle("10"), "10")
        self.assertEqual(bench.cycle("01"), "01")
        self.assertEqual(bench.held(), "10")


class Change(unittest.TestCase):
    def test_all_tiles_of_nothing_at_first(self):
        bench = bench_with(*FLIP, ("lay",))
        nothing = [tile()] * 8
        self.assertEqual(bench.change(), patch(nothing, bench.image()))
        self.assertEqual(len(bench.change()), len([one for one in bench.image() if "1" in one]))

    def test_just_the_tiles_that_differ(self):
        bench = bench_with(*FLIP, ("lay",))
        for deeds, differ in (((), 0), ((("bits", "next", "1001"),), 1), ((("bits", "now", "1"),), 1),
                              ((("cycle", "1"), ("peg", "go", bench.sheet().index("go"))), 0)):
            before = bench.image()
            for deed in deeds:
                bench.deed(deed)
            bench.lay()
            self.assertEqual(bench.change(), patch(before, bench.image()))
            self.assertEqual(len(bench.change()), differ)
            self.assertEqual(patched(before, bench.change()), bench.image())

    def test_edits_and_cycles_leave_it(self):
        bench = bench_with(*FLIP, ("lay",), ("bits", "next", "1001"), ("lay",))
        before = bench.change()
        self.assertEqual(len(before), 1)
        for deed in (("cycle", "1"), ("drop", "told"), ("peg", "go", 0)):
            bench.deed(deed)
            self.assertEqual(bench.change(), before)


class Holding(unittest.TestCase):
    def test_what_the_register_of_its_name_held(self):
        bench = bench_with(*FLIP, ("lay",), ("cycle", "1"))
        self.assertEqual(bench.held(), "1")
        bench.keeper("more", "0", "now")
        bench.bits("now", "0")
        self.assertEqual(bench.held(), "1")
        bench.lay()
        self.assertEqual(bench.held(), "10")

    def test_wherever_it_lies(self):
        bench = bench_with(*FLIP, ("register", "other", "0", "other"), ("peg", "now", 0), ("peg", "other", 7), ("lay",),
                           ("cycle", "1"), ("free", "now"), ("free", "other"), ("peg", "now", 7), ("peg", "other", 0))
        self.assertEqual(bench.held(), "10")
        bench.lay()
        self.assertEqual(bench.held(), "10")
        self.assertEqual((bench.sheet()[0], bench.sheet()[7]), ("other", "now"))

    def test_a_new_one_begins_with_its_bit(self):
        bench = bench_with(*FLIP, ("lay",), ("cycle", "1"), ("register", "one", "1", "one"),
                           ("register", "none", "0", "none"), ("lay",))
        self.assertEqual(bench.held(), "110")

    def test_dropped_and_put_anew_between_two_lays(self):
        bench = bench_with(("register", "r", "0", "r"), ("gate", "g", "1", ()), ("wire", "r", 0, "g"), ("lay",),
                           ("cycle", ""), ("drop", "r"), ("register", "r", "0", "r"))
        self.assertEqual(bench.held(), "1")
        bench.lay()
        self.assertEqual(bench.held(), "1")

    def test_a_gate_had_the_name_between(self):
        bench = bench_with(("register", "r", "0", "r"), ("gate", "g", "1", ()), ("wire", "r", 0, "g"), ("lay",),
                           ("cycle", ""), ("drop", "r"), ("gate", "r", "0", ()), ("drop", "r"),
                           ("register", "r", "0", "r"), ("lay",))
        self.assertEqual(bench.held(), "1")

    def test_a_gate_had_the_name_in_the_laying_ahead(self):
        bench = bench_with(("register", "r", "0", "r"), ("gate", "g", "1", ()), ("wire", "r", 0, "g"), ("lay",),
                           ("cycle", ""), ("drop", "r"), ("gate", "r", "0", ()), ("lay",))
        self.assertEqual(bench.held(), "")
        bench.drop("r")
        bench.keeper("r", "0", "r")
        bench.lay()
        self.assertEqual(bench.held(), "0")

    def test_a_refused_lay_leaves_it(self):
        bench = bench_with(*FLIP, ("lay",), ("cycle", "1"), slots=4)
        bench.entry("more")
        with self.assertRaises(errors.NoRoom):
            bench.lay()
        self.assertEqual((bench.held(), bench.cycle("0"), bench.held()), ("1", "1", "1"))


class Cycles(unittest.TestCase):
    def test_go_on_by_the_laid_netlist_whatever_is_edited(self):
        bench = bench_with(*FLIP, ("lay",))
        kept = {method: getattr(bench, method)() for method in ("laid", "image", "sheet", "delay", "change")}
        self.assertEqual(bench.cycle("1"), "0")
        for deed in (("drop", "told"), ("wire", "now", 0, "go"), ("drop", "next"), ("register", "told", "1", "now"),
                     ("bits", "now", "1"), ("input", "more"), ("peg", "more", 0), ("wire", "now", 0, "now"),
                     ("wire", "told", 0, "told"), ("drop", "now"), ("drop", "go"), ("drop", "more"), ("drop", "told")):
            bench.deed(deed)
            self.assertEqual({method: getattr(bench, method)() for method in kept}, kept)
            held = bench.held()
            told, behind = samples.cycle_by_definition(kept["laid"][0], held, "1")
            self.assertEqual((bench.cycle("1"), bench.held()), (told, behind))
        self.assertEqual(len(bench), 0)

    def test_refused(self):
        bench = bench_with(*FLIP)
        for row in ("1", "", "00", "x"):
            with self.assertRaises(errors.NotLaid):
                bench.cycle(row)
        with self.assertRaises(errors.NotLaid):
            bench.cycle()
        bench.lay()
        bench.entry("more")
        before = everything(bench)
        for row in ("", "00", "2", "x", " ", "-", "1\n"):
            with self.assertRaises(errors.BadRow):
                bench.cycle(row)
            self.assertEqual(everything(bench), before)
        with self.assertRaises(errors.BadRow):
            bench.cycle()
        self.assertEqual(bench.cycle("1"), "0")
        bench.lay()
        with self.assertRaises(errors.BadRow):
            bench.cycle("1")
        self.assertEqual(bench.cycle("10"), "1")


class Told(unittest.TestCase):
    def test_told_lists_are_new(self):
        bench = bench_with(*FLIP, ("lay",), ("cycle", "1"))
        before = everything(bench)
        bench.laid()[2].clear()
        for method in ("image", "change", "deeds"):
            told = getattr(bench, method)()
            self.assertIs(type(told), list)
            told.append(told[0])
            del told[0]
        self.assertEqual(everything(bench), before)

    def test_the_same_again(self):
        one, other = bench_with(*FLIP, ("lay",)), bench_with(*FLIP, ("lay",))
        self.assertEqual(everything(one), everything(other))
        for _ in range(2):
            self.assertEqual(everything(one), everything(one))

    def test_kinds_of_values(self):
        bench = bench_with(*FLIP, ("peg", "go", 0), ("lay",))
        told = everything(bench)
        self.assertEqual({name: type(worth).__name__ for name, worth in told.items()}, {
            "netlist": "tuple", "pegs": "tuple", "laid": "tuple", "image": "list", "sheet": "tuple", "held": "str",
            "delay": "tuple", "change": "list", "stale": "bool", "deeds": "list", "least": "int", "page": "str",
            "len": "int", "str": "str", "repr": "str"})
        self.assertEqual({type(peg) for peg in bench.pegs()}, {tuple})


class Full(unittest.TestCase):
    def test_twelve_things_in_fourteen_slots(self):
        chance = random.Random(5)
        laid = 0
        for seed, counts in enumerate(((4, 4, 4, 0), (2, 6, 2, 2), (4, 2, 2, 4), (1, 4, 4, 3))):
            netlist = samples.big_netlist(seed, *counts)
            bench = bench_of_netlist(netlist, 14, 6)
            self.timed(bench.least)
            if bench.least() > 6:
                continue
            self.timed(bench.lay)
            check_laying(self, bench, 14, 6)
            before = everything(bench)
            for _ in range(10):
                row = "".join(chance.choice("01") for _ in range(counts[0]))
                self.timed(bench.cycle, row)
            register = next(thing for thing in netlist if thing[0] == "reg")
            self.timed(bench.bits, register[1], "1" if register[2] == "0" else "0")
            self.timed(bench.lay)
            check_laying(self, bench, 14, 6)
            for _ in range(12):
                self.timed(bench.back)
            self.assertEqual(everything(bench), before)
            for _ in range(12):
                self.timed(bench.again)
            self.timed(bench.twin)
            laid += 1
        self.assertGreater(laid, 1)

    def timed(self, method, *handed):
        before = time.perf_counter()
        method(*handed)
        self.assertLess(time.perf_counter() - before, 1)


if __name__ == "__main__":
    unittest.main()
