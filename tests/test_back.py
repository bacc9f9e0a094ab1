"""[1], [2], [21]: deeds taken back and done again, twins, equality, and long rows of any deeds."""

import random
import time
import unittest

from tests.benches import FLIP, bench_with, check_laying
from tests.model import Model, everything, made_anew, some_deed
from tracklay import errors
from tracklay.bench import Bench
from tracklay.pages import bench_of, page
from tracklay.places import bars

LONG = FLIP + (
    ("peg", "go", 2), ("lay",), ("cycle", "1"), ("cycle", "0"), ("bits", "next", "1001"), ("lay",), ("free", "go"),
    ("cycle", "1"), ("drop", "told"), ("output", "told", "next"), ("input", "more"), ("wire", "next", 0, "more"),
    ("peg", "more", 7), ("lay",), ("cycle", "01"), ("drop", "told"), ("lay",), ("cycle", "11"),
)


class BackAndAgain(unittest.TestCase):
    def test_each_stand_as_when_the_bench_stood_there_first(self):
        bench = Bench(8)
        stands = [everything(bench)]
        for deed in LONG:
            bench.deed(deed)
            stands.append(everything(bench))
        for wanted in reversed(stands[:-1]):
            self.assertIsNone(bench.back())
            self.assertEqual(everything(bench), wanted)
            self.assertEqual(everything(bench.twin()), wanted)
            anew = made_anew(bench)
            self.assertEqual(everything(anew), wanted)
            self.assertTrue(bench == anew)
        for wanted in stands[1:]:
            self.assertIsNone(bench.again())
            self.assertEqual(everything(bench), wanted)
            self.assertTrue(bench == made_anew(bench))

    def test_nothing_left(self):
        bench = Bench(8)
        for method in (bench.back, bench.again):
            with self.assertRaises(errors.NothingLeft):
                method()
        bench.entry("a")
        with self.assertRaises(errors.NothingLeft):
            bench.again()
        bench.back()
        with self.assertRaises(errors.NothingLeft):
            bench.back()
        bench.again()
        with self.assertRaises(errors.NothingLeft):
            bench.again()
        self.assertEqual(bench.deeds(), [("input", "a")])

    def test_a_refused_deed_is_not_kept_and_ends_nothing(self):
        bench = bench_with(*FLIP, ("lay",), ("cycle", "1"), ("cycle", "1"))
        whole = everything(bench)
        bench.back()
        bench.back()
        here = everything(bench)
        for deed in (("input", "go"), ("input", "A"), ("gate", "g", "0", ("go",)), ("bits", "go", "1"), ("drop", "go"),
                     ("wire", "next", 0, "next"), ("wire", "next", 2, "go"), ("peg", "go", 8), ("free", "go"),
                     ("cycle", "11"), ("output", "o", "o"), ("register", "r", "", "r")):
            with self.assertRaises((errors.LayError, errors.Absent)):
                bench.deed(deed)
            self.assertEqual(everything(bench), here)
        bench.again()
        bench.again()
        self.assertEqual(everything(bench), whole)

    def test_a_refused_lay_and_cycle_end_nothing(self):
        bench = bench_with(("input", "a"), ("input", "b"), ("input", "c"), slots=1, tracks=1)
        bench.back()
        with self.assertRaises(errors.NoRoom):
            bench.lay()
        with self.assertRaises(errors.NotLaid):
            bench.cycle("00")
        bench.again()
        self.assertEqual(len(bench), 3)

    def test_another_deed_ends_it(self):
        bench = bench_with(*FLIP)
        bench.back()
        bench.back()
        bench.entry("more")
        with self.assertRaises(errors.NothingLeft):
            bench.again()
        self.assertEqual(bench.deeds(), list(FLIP[:3]) + [("input", "more")])
        self.assertEqual(everything(bench), everything(made_anew(bench)))
        bench.back()
        bench.again()
        self.assertEqual(bench.deeds()[-1], ("input", "more"))
        bench.back()
        bench.deed(("input", "more"))
        with self.assertRaises(errors.NothingLeft):
            bench.again()

    def test_a_lay_taken_back_leaves_the_laying_ahead_running(self):
        bench = bench_with(*FLIP, ("lay",), ("cycle", "1"), ("bits", "next", "1001"), ("lay",))
        self.assertEqual(len(bench.change()), 1)
        bench.back()
        self.assertGreater(len(bench.change()), 1)
        self.assertIs(bench.stale(), True)
        self.assertEqual((bench.held(), bench.cycle("0"), bench.held()), ("1", "1", "1"))
        for _ in range(4):
            bench.back()
        self.assertIsNone(bench.laid())
        with self.assertRaises(errors.NotLaid):
            bench.held()

    def test_over_a_hundred_deeds(self):
        bench = bench_with(*FLIP, slots=14, tracks=6)
        for number in range(60):
            bench.bits("next", "1001" if number % 2 else "0110")
            bench.lay() if number % 10 == 0 else bench.peg("go", number % 14)
            bench.cycle("1")
            if number % 10:
                bench.unpeg("go")
        many = len(bench.deeds())
        self.assertGreater(many, 200)
        whole = everything(bench)
        before = time.perf_counter()
        for _ in range(many):
            bench.back()
        self.assertEqual(everything(bench), everything(Bench(14, 6)))
        for _ in range(many):
            bench.again()
        self.assertLess(time.perf_counter() - before, 2)
        self.assertEqual(everything(bench), whole)


class Twins(unittest.TestCase):
    def test_alike_and_apart_from_then_on(self):
        bench = bench_with(*LONG)
        for _ in range(3):
            bench.back()
        twin = bench.twin()
        self.assertIs(type(twin), Bench)
        self.assertEqual(everything(twin), everything(bench))
        self.assertTrue(twin == bench)
        before = everything(bench)
        for _ in range(3):
            twin.again()
        with self.assertRaises(errors.NothingLeft):
            twin.again()
        self.assertEqual(everything(bench), before)
        for _ in range(len(LONG)):
            twin.back()
        with self.assertRaises(errors.NothingLeft):
            twin.back()
        self.assertEqual(everything(bench), before)
        twin.entry("x")
        self.assertEqual(everything(bench), before)
        bench.again()
        bench.again()
        bench.again()
        self.assertEqual(everything(bench), everything(bench_with(*LONG)))
        self.assertEqual(twin.netlist(), (("in", "x", "", ()),))

    def test_cycles_of_one_do_not_run_the_other(self):
        bench = bench_with(*FLIP, ("lay",))
        twin = bench.twin()
        twin.cycle("1")
        self.assertEqual((bench.held(), twin.held()), ("0", "1"))
        bench.cycle("0")
        self.assertEqual((bench.held(), twin.held()), ("0", "1"))
        bench.peg("go", 5)
        bench.lay()
        self.assertEqual(twin.pegs(), ())

    def test_what_is_done_to_the_first_one(self):
        bench = bench_with(*FLIP)
        bench.back()
        twin = bench.twin()
        bench.entry("x")
        twin.again()
        self.assertEqual(twin.deeds(), list(FLIP))
        with self.assertRaises(errors.NothingLeft):
            bench.again()


class Equal(unittest.TestCase):
    def test_just_where_size_and_deeds_are_the_same(self):
        one = bench_with(*FLIP)
        self.assertTrue(one == bench_with(*FLIP))
        self.assertFalse(one != bench_with(*FLIP))
        self.assertTrue(one == one)
        self.assertFalse(one == bench_with(*FLIP, slots=9))
        self.assertFalse(one == bench_with(*FLIP, tracks=4))
        self.assertFalse(one == bench_with(*FLIP[:-1]))
        self.assertFalse(one == bench_with(*FLIP, ("lay",)))
        self.assertTrue(Bench(4) == Bench(4, 3))
        self.assertFalse(Bench(4) == Bench(4, 4))

    def test_what_was_taken_back_does_not_count(self):
        one = bench_with(*FLIP, ("lay",))
        one.back()
        self.assertTrue(one == bench_with(*FLIP))

    def test_other_deeds_that_come_to_the_same(self):
        one = bench_with(*FLIP, ("input", "more"), ("drop", "more"))
        self.assertFalse(one == bench_with(*FLIP))
        self.assertFalse(bench_with(("input", "a"), ("gate", "g", "1", ())) == bench_with(
            ("gate", "g", "1", ()), ("input", "a")))

    def test_to_nothing_else(self):
        one = bench_with(*FLIP)
        for other in (None, 0, "", str(one), one.deeds(), one.netlist(), {}, False, len(one)):
            self.assertIs(one == other, False)
            self.assertIs(one != other, True)
            self.assertIs(other == one, False)

    def test_len_str_repr(self):
        one = bench_with(*FLIP, ("lay",), ("cycle", "1"))
        self.assertEqual(len(one), 4)
        self.assertEqual(repr(one), "Bench(8 slots, 3 tracks, 4 things)")
        self.assertEqual(str(one), page(one))
        one.entry("more")
        self.assertEqual(repr(one), "Bench(8 slots, 3 tracks, 5 things)")


class AnyDeeds(unittest.TestCase):
    """Long rows of any deeds, taken back and done again now and then, held against the document's words."""

    def walk(self, seed, many):
        chance = random.Random(seed)
        slots, tracks = chance.randrange(3, 9), chance.randrange(1, 5)
        bench = Bench(slots, tracks)
        model = Model(slots, tracks)
        deeds, undone = [], []
        seen = set()
        for _ in range(many):
            if chance.random() < 0.15:
                self.go_back(chance, bench, deeds, undone)
                model = Model(slots, tracks)
                for deed in deeds:
                    model.do(deed)
            else:
                deed = some_deed(chance, model)
                seen.add(self.do(bench, model, deed, deeds, undone) or deed[0])
            self.compare(bench, model, deeds)
        self.assertEqual(everything(bench), everything(made_anew(bench)))
        self.assertEqual(everything(bench_of(page(bench))), everything(bench))
        return seen

    def do(self, bench, model, deed, deeds, undone):
        wanted = model.refusal(deed)
        if wanted is None:
            self.assertEqual(bench.deed(deed), model.do(deed))
            deeds.append(deed)
            undone.clear()
            if deed == ("lay",):
                check_laying(self, bench, model.slots, model.tracks)
            return None
        with self.assertRaises((errors.LayError, errors.Absent)) as caught:
            bench.deed(deed)
        self.assertEqual(type(caught.exception).__name__, wanted[0], deed)
        if wanted[0] == "NoRoom":
            family = caught.exception.family
            self.assertTrue(bars(model.netlist(), model.slots, model.tracks, model.pegs_by_places(), family))
            self.assertTrue(family or len(model.netlist()) > model.slots)
        elif wanted[0] != "Ring":
            self.assertEqual(vars(caught.exception), wanted[1], deed)
        return wanted[0]

    def go_back(self, chance, bench, deeds, undone):
        for _ in range(chance.randrange(1, 5)):
            forth = chance.random() < 0.5
            if not (undone if forth else deeds):
                with self.assertRaises(errors.NothingLeft):
                    bench.again() if forth else bench.back()
            elif forth:
                bench.again()
                deeds.append(undone.pop())
            else:
                bench.back()
                undone.append(deeds.pop())

    def compare(self, bench, model, deeds):
        self.assertEqual(bench.netlist(), model.netlist())
        self.assertEqual(bench.pegs(), model.pegs())
        self.assertEqual(bench.deeds(), deeds)
        self.assertEqual(len(bench), len(model.netlist()))
        self.assertIs(bench.stale(), model.laid is None or model.laid != model.netlist())
        if model.laid is None:
            self.assertIsNone(bench.laid())
        else:
            self.assertEqual(bench.laid()[0], model.laid)
            self.assertEqual(bench.held(), model.held_row())

    def test_any_deeds(self):
        seen = set()
        for seed in range(150):
            seen |= self.walk(seed, 70)
        wanted = set("""input gate register output bits wire drop peg free lay cycle BadName Taken BadBits NoThing NoPin
            Ring Read NoSlot Pegged NotPegged NoRoom NotLaid BadRow TooBig""".split())
        self.assertEqual(wanted - seen, set())


if __name__ == "__main__":
    unittest.main()
