"""[19], [20] and the deeds of the interface's section tracklay/bench.py."""

import itertools
import unittest

from tests.benches import FLIP, bench_with
from tests.model import everything
from tracklay import errors
from tracklay.bench import Bench
from tracklay.places import bars

FLIP_THINGS = (
    ("in", "go", "", ()),
    ("reg", "now", "0", ("next",)),
    ("gate", "next", "0110", ("go", "now")),
    ("out", "told", "", ("now",)),
)
NO_NAMES = ("", "A", "aB", "abcdefghi", "a1", "a b", " a", "a ", "-", "1", "a\n", "z" * 20)


class Refusing(unittest.TestCase):
    def refused(self, bench, deed, refusal, **fields):
        """A deed is refused so, by `deed` twice, and all that can be asked stays as it was."""
        before = everything(bench)
        twin = bench.twin()
        for _ in range(2):
            with self.assertRaises((errors.LayError, errors.Absent)) as caught:
                bench.deed(deed)
            self.assertIs(type(caught.exception), getattr(errors, refusal), deed)
            self.assertEqual(vars(caught.exception), fields, deed)
        self.assertEqual(everything(bench), before)
        self.assertEqual(bench, twin)


class Sizes(unittest.TestCase):
    def test_good_ones(self):
        for slots, tracks in itertools.product(range(1, 15), range(1, 7)):
            bench = Bench(slots, tracks)
            self.assertEqual(repr(bench), f"Bench({slots} slots, {tracks} tracks, 0 things)")
            self.assertEqual(str(bench), f"bench {slots} {tracks}")

    def test_tracks_by_default_and_by_name(self):
        self.assertEqual(repr(Bench(5)), "Bench(5 slots, 3 tracks, 0 things)")
        self.assertEqual(repr(Bench(tracks=2, slots=5)), "Bench(5 slots, 2 tracks, 0 things)")
        self.assertEqual(repr(Bench(slots=5)), "Bench(5 slots, 3 tracks, 0 things)")

    def test_bad_ones(self):
        for slots, tracks in ((0, 3), (-1, 3), (15, 3), (99, 3), (5, 0), (5, -1), (5, 7), (5, 99), (0, 0), (15, 7),
                              (10 ** 30, 1), (1, -10 ** 30)):
            with self.assertRaises(errors.BadSize):
                Bench(slots, tracks)
        with self.assertRaises(errors.BadSize):
            Bench(0)
        with self.assertRaises(errors.BadSize):
            Bench(slots=15)

    def test_an_empty_one(self):
        bench = Bench(4, 2)
        self.assertEqual((bench.netlist(), bench.pegs(), bench.deeds(), len(bench)), ((), (), [], 0))
        self.assertIsNone(bench.laid())
        self.assertIs(bench.stale(), True)
        self.assertEqual(bench.least(), 0)
        for method in (bench.image, bench.sheet, bench.held, bench.delay, bench.change):
            with self.assertRaises(errors.NotLaid):
                method()


class Coming(Refusing):
    def test_ordinary(self):
        bench = bench_with(*FLIP)
        self.assertEqual(bench.netlist(), FLIP_THINGS)
        self.assertEqual(len(bench), 4)
        self.assertEqual(bench.deeds(), list(FLIP))

    def test_each_kinds_things_in_the_order_in_which_they_came(self):
        bench = bench_with(("gate", "g", "1", ()), ("output", "z", "g"), ("input", "b"), ("register", "r", "1", "b"),
                           ("output", "y", "b"), ("input", "a"), ("gate", "f", "10", ("a",)))
        self.assertEqual([thing[:2] for thing in bench.netlist()], [
            ("in", "b"), ("in", "a"), ("gate", "g"), ("reg", "r"), ("gate", "f"), ("out", "z"), ("out", "y")])
        bench.drop("y")
        bench.drop("z")
        bench.output("y", "r")
        bench.output("z", "r")
        self.assertEqual([thing[1] for thing in bench.netlist()][-2:], ["y", "z"])

    def test_tell_none(self):
        bench = Bench(8)
        for deed in FLIP + (("bits", "now", "1"), ("peg", "go", 3), ("free", "go"), ("lay",), ("drop", "told")):
            self.assertIsNone(bench.deed(deed))

    def test_bad_names(self):
        bench = bench_with(*FLIP)
        for name in NO_NAMES:
            self.refused(bench, ("input", name), "BadName")
            self.refused(bench, ("gate", name, "xx", ("nobody",) * 9), "BadName")
            self.refused(bench, ("register", name, "xx", "nobody"), "BadName")
            self.refused(bench, ("output", name, "nobody"), "BadName")
        for name in ("a", "z", "abcdefgh", "zzzzzzzz"):
            Bench(1).entry(name)

    def test_taken(self):
        bench = bench_with(*FLIP)
        for name in ("go", "now", "next", "told"):
            self.refused(bench, ("input", name), "Taken")
            self.refused(bench, ("gate", name, "xx", ("nobody",) * 9), "Taken")
            self.refused(bench, ("register", name, "xx", "nobody"), "Taken")
            self.refused(bench, ("output", name, "nobody"), "Taken")

    def test_bad_bits_of_gates(self):
        bench = bench_with(*FLIP)
        for many, long in ((0, 1), (1, 2), (2, 4), (3, 8)):
            for pins in (("go",) * many, ("nobody",) * many):
                for bits in ("", "0" * (long - 1), "0" * (long + 1), "0" * (2 * long), "2" * long, "0" * (long - 1) + "x"):
                    self.refused(bench, ("gate", "g", bits, pins), "BadBits")
        for pins in (("go",) * 4, ("nobody",) * 4, ("go",) * 9):
            for bits in ("", "0", "0" * 8, "0" * 16, "0" * 512):
                self.refused(bench, ("gate", "g", bits, pins), "BadBits")

    def test_bad_bits_of_registers(self):
        bench = bench_with(*FLIP)
        for pin in ("go", "nobody", "r"):
            for bits in ("", "00", "01", "2", "x", " ", "0000"):
                self.refused(bench, ("register", "r", bits, pin), "BadBits")

    def test_pins_that_are_not_there(self):
        bench = bench_with(*FLIP)
        for pin in ("nobody", "told", "", "GO", "g", "a b"):
            self.refused(bench, ("gate", "g", "01", (pin,)), "NoThing", name=pin)
            self.refused(bench, ("gate", "g", "01010101", ("go", pin, "nobody")), "NoThing", name=pin)
            self.refused(bench, ("gate", "g", "0101", ("next", pin)), "NoThing", name=pin)
            self.refused(bench, ("register", "r", "0", pin), "NoThing", name=pin)
            self.refused(bench, ("output", "o", pin), "NoThing", name=pin)
        self.refused(bench, ("output", "o", "o"), "NoThing", name="o")

    def test_a_register_may_read_itself_and_a_gate_may_not(self):
        bench = bench_with(("register", "r", "1", "r"))
        self.assertEqual(bench.netlist(), (("reg", "r", "1", ("r",)),))
        self.refused(bench, ("gate", "g", "01", ("g",)), "NoThing", name="g")

    def test_too_many_of_a_kind(self):
        bench = bench_with(*[("input", name) for name in "abcd"], slots=14)
        self.refused(bench, ("input", "e"), "TooBig")
        bench = bench_with(("input", "a"), *[("output", name, "a") for name in "wxyz"], slots=14)
        self.refused(bench, ("output", "v", "a"), "TooBig")
        self.refused(bench, ("output", "v", "nobody"), "NoThing", name="nobody")
        bench = bench_with(*[("register", name, "0", name) for name in "pqrs"], slots=14)
        self.refused(bench, ("register", "t", "0", "t"), "TooBig")
        self.refused(bench, ("register", "t", "0", "nobody"), "NoThing", name="nobody")
        bench.deed(("gate", "t", "0", ()))
        bench = bench_with(*[("gate", name, "0", ()) for name in "abcdefgh"], slots=14)
        self.refused(bench, ("gate", "i", "0", ()), "TooBig")
        self.refused(bench, ("gate", "i", "00", ("nobody",)), "NoThing", name="nobody")
        self.refused(bench, ("register", "i", "0", "i"), "TooBig")
        bench.drop("h")
        bench.keeper("i", "0", "i")
        self.refused(bench, ("gate", "j", "0", ()), "TooBig")

    def test_more_than_twelve_together(self):
        bench = bench_with(*[("input", name) for name in "abcd"], *[("gate", name, "0", ()) for name in "efghijkl"])
        self.assertEqual(len(bench), 12)
        self.refused(bench, ("output", "z", "a"), "TooBig")
        bench.drop("a")
        bench.output("z", "b")
        self.refused(bench, ("input", "a"), "TooBig")
        self.refused(bench, ("output", "y", "b"), "TooBig")
        bench.drop("l")
        self.refused(bench, ("register", "l", "0", "a"), "NoThing", name="a")
        bench.keeper("l", "0", "b")
        self.refused(bench, ("input", "a"), "TooBig")


class Changing(Refusing):
    def test_bits(self):
        bench = bench_with(*FLIP)
        bench.bits("next", "1001")
        bench.bits("now", "1")
        self.assertEqual(bench.netlist(), (FLIP_THINGS[0], ("reg", "now", "1", ("next",)),
                                           ("gate", "next", "1001", ("go", "now")), FLIP_THINGS[3]))
        bench.bits("now", "1")
        self.assertEqual(bench.deeds()[-1], ("bits", "now", "1"))

    def test_bits_refused(self):
        bench = bench_with(*FLIP)
        for name in ("nobody", "go", "told", "", "NOW"):
            self.refused(bench, ("bits", name, "0"), "NoThing", name=name)
            self.refused(bench, ("bits", name, "what"), "NoThing", name=name)
        for bits in ("", "0", "01", "010", "01010", "01010101", "012", "0120", "    "):
            self.refused(bench, ("bits", "next", bits), "BadBits")
        for bits in ("", "01", "2", "x", "0000"):
            self.refused(bench, ("bits", "now", bits), "BadBits")

    def test_wire(self):
        bench = bench_with(*FLIP)
        bench.wire("next", 1, "go")
        bench.wire("told", 0, "next")
        bench.wire("now", 0, "now")
        self.assertEqual(bench.netlist(), (FLIP_THINGS[0], ("reg", "now", "0", ("now",)),
                                           ("gate", "next", "0110", ("go", "go")), ("out", "told", "", ("next",))))
        bench.gate("g", "00000001", ("go", "now", "next"))
        for at, source in enumerate(("now", "next", "go")):
            bench.wire("g", at, source)
        self.assertEqual(bench.netlist()[3], ("gate", "g", "00000001", ("now", "next", "go")))

    def test_wire_refused(self):
        bench = bench_with(*FLIP)
        for at in (0, 1, -1, -5, 99, 10 ** 20):
            for name in ("nobody", "", "NEXT"):
                for source in ("go", "nobody"):
                    self.refused(bench, ("wire", name, at, source), "NoThing", name=name)
        for name, pins in (("go", 0), ("now", 1), ("next", 2), ("told", 1)):
            for at in (-1, -2, -3, pins, pins + 1, 99):
                for source in ("go", "nobody", name):
                    self.refused(bench, ("wire", name, at, source), "NoPin")
            for at in range(pins):
                for source in ("nobody", "told", "", "GO"):
                    self.refused(bench, ("wire", name, at, source), "NoThing", name=source)

    def test_wire_to_a_ring(self):
        bench = bench_with(*FLIP)
        self.refused(bench, ("wire", "next", 0, "next"), "Ring", ring=("next",))
        chain = bench_with(("input", "a"), ("gate", "f", "01", ("a",)), ("gate", "g", "01", ("f",)),
                           ("gate", "h", "0101", ("g", "a")), ("register", "r", "0", "h"))
        before = everything(chain)
        for name, at, source, wanted in (("f", 0, "h", "fgh"), ("f", 0, "g", "fg"), ("g", 0, "h", "gh"), ("h", 1, "h", "h")):
            with self.assertRaises(errors.Ring) as caught:
                chain.wire(name, at, source)
            ring = caught.exception.ring
            self.assertIs(type(ring), tuple)
            self.assertIn("".join(ring), [wanted[at:] + wanted[:at] for at in range(len(wanted))])
            self.assertEqual(everything(chain), before)
        chain.wire("f", 0, "r")
        self.assertEqual(chain.netlist()[1], ("gate", "f", "01", ("r",)))

    def test_drop(self):
        bench = bench_with(*FLIP)
        bench.drop("told")
        self.assertEqual(bench.netlist(), FLIP_THINGS[:3])
        bench.wire("next", 1, "go")
        bench.drop("now")
        bench.drop("next")
        bench.drop("go")
        self.assertEqual((bench.netlist(), len(bench)), ((), 0))

    def test_drop_what_reads_itself_alone(self):
        bench = bench_with(("register", "r", "1", "r"))
        bench.drop("r")
        self.assertEqual(bench.netlist(), ())

    def test_drop_refused(self):
        bench = bench_with(*FLIP)
        for name in ("nobody", "", "GO"):
            self.refused(bench, ("drop", name), "NoThing", name=name)
        self.refused(bench, ("drop", "go"), "Read", by="next")
        self.refused(bench, ("drop", "next"), "Read", by="now")
        self.refused(bench, ("drop", "now"), "Read", by="next")
        bench = bench_with(("register", "r", "1", "r"), ("output", "y", "r"), ("output", "z", "r"))
        self.refused(bench, ("drop", "r"), "Read", by="y")
        bench.drop("y")
        self.refused(bench, ("drop", "r"), "Read", by="z")
        bench.gate("g", "01", ("r",))
        self.refused(bench, ("drop", "r"), "Read", by="g")


class Pegging(Refusing):
    def test_by_slots(self):
        bench = bench_with(*FLIP)
        bench.peg("told", 7)
        bench.peg("now", 0)
        bench.peg("go", 3)
        self.assertEqual(bench.pegs(), (("now", 0), ("go", 3), ("told", 7)))
        bench.unpeg("go")
        self.assertEqual(bench.pegs(), (("now", 0), ("told", 7)))
        bench.peg("go", 1)
        self.assertEqual(bench.pegs(), (("now", 0), ("go", 1), ("told", 7)))
        bench.unpeg("now")
        bench.peg("next", 0)
        self.assertEqual(bench.pegs(), (("next", 0), ("go", 1), ("told", 7)))

    def test_refused(self):
        bench = bench_with(*FLIP, ("peg", "go", 3))
        for name in ("nobody", "", "GO"):
            for slot in (0, 3, -1, 8, 99):
                self.refused(bench, ("peg", name, slot), "NoThing", name=name)
            self.refused(bench, ("free", name), "NoThing", name=name)
        for name in ("now", "go"):
            for slot in (-1, -8, 8, 9, 99, 10 ** 20):
                self.refused(bench, ("peg", name, slot), "NoSlot")
        self.refused(bench, ("peg", "go", 3), "Pegged")
        self.refused(bench, ("peg", "go", 4), "Pegged")
        self.refused(bench, ("peg", "now", 3), "Pegged")
        self.refused(bench, ("free", "now"), "NotPegged")
        bench.unpeg("go")
        self.refused(bench, ("free", "go"), "NotPegged")
        bench.peg("now", 3)

    def test_a_drop_takes_the_peg_along(self):
        bench = bench_with(*FLIP, ("peg", "told", 3), ("peg", "go", 0), ("drop", "told"))
        self.assertEqual(bench.pegs(), (("go", 0),))
        bench.output("told", "now")
        self.assertEqual(bench.pegs(), (("go", 0),))
        self.refused(bench, ("free", "told"), "NotPegged")
        bench.peg("now", 3)
        self.assertEqual(bench.pegs(), (("go", 0), ("now", 3)))

    def test_edits_leave_pegs(self):
        bench = bench_with(*FLIP, ("peg", "next", 2), ("bits", "next", "1001"), ("wire", "next", 0, "now"),
                           ("input", "more"), ("drop", "told"))
        self.assertEqual(bench.pegs(), (("next", 2),))

    def test_least_with_pegs(self):
        bench = bench_with(("input", "a"), ("input", "b"), ("output", "y", "a"), ("output", "z", "b"), slots=4)
        self.assertEqual(bench.least(), 1)
        bench.peg("a", 0)
        bench.peg("y", 3)
        self.assertEqual(bench.least(), 2)
        bench.unpeg("y")
        self.assertEqual(bench.least(), 1)
        bench.entry("c")
        self.assertIsNone(bench.least())


class Methods(unittest.TestCase):
    DEEDS = (
        (("input", "a"), "entry", {"name": "a"}),
        (("gate", "g", "01", ("a",)), "gate", {"name": "g", "bits": "01", "pins": ("a",)}),
        (("register", "r", "0", "g"), "keeper", {"name": "r", "bits": "0", "pin": "g"}),
        (("output", "z", "r"), "output", {"name": "z", "pin": "r"}),
        (("bits", "g", "10"), "bits", {"name": "g", "bits": "10"}),
        (("wire", "g", 0, "r"), "wire", {"name": "g", "at": 0, "source": "r"}),
        (("peg", "a", 1), "peg", {"name": "a", "slot": 1}),
        (("free", "a"), "unpeg", {"name": "a"}),
        (("lay",), "lay", {}),
        (("cycle", "1"), "cycle", {"row": "1"}),
        (("drop", "z"), "drop", {"name": "z"}),
    )

    def test_by_place_by_name_and_by_deed(self):
        by_place, by_name, by_deed, by_deed_name = [Bench(6) for _ in range(4)]
        for deed, method, named in self.DEEDS:
            told = [getattr(by_place, method)(*named.values()), getattr(by_name, method)(**named),
                    by_deed.deed(deed), by_deed_name.deed(row=deed)]
            self.assertEqual(told, ["0" if method == "cycle" else None] * 4)
            for other in (by_name, by_deed, by_deed_name):
                self.assertEqual(everything(other), everything(by_place))
                self.assertEqual(other, by_place)
        self.assertEqual(by_place.deeds(), [deed for deed, method, named in self.DEEDS])

    def test_names_in_any_order(self):
        bench = Bench(6)
        bench.entry(name="a")
        bench.gate(pins=("a",), bits="10", name="g")
        bench.keeper(pin="g", bits="1", name="r")
        bench.output(pin="r", name="z")
        bench.wire(source="r", at=0, name="g")
        bench.peg(slot=2, name="g")
        self.assertEqual(bench.netlist()[1:3], (("gate", "g", "10", ("r",)), ("reg", "r", "1", ("g",))))

    def test_the_default_of_cycle(self):
        bench = bench_with(("gate", "g", "1", ()), ("output", "z", "g"), ("lay",))
        self.assertEqual((bench.cycle(), bench.cycle(""), bench.cycle(row="")), ("1", "1", "1"))
        self.assertEqual(bench.deeds()[-3:], [("cycle", "")] * 3)

    def test_handed_pins_are_not_kept(self):
        bench = bench_with(("input", "a"))
        pins = ["a"]
        bench.gate("g", "01", pins)
        pins.clear()
        self.assertEqual(bench.netlist()[1], ("gate", "g", "01", ("a",)))
        self.assertEqual(bench.deeds()[1], ("gate", "g", "01", ("a",)))


class Room(Refusing):
    def test_more_things_than_slots(self):
        bench = bench_with(*FLIP, slots=3)
        self.refused(bench, ("lay",), "NoRoom", family=[])
        self.assertIsNone(bench.least())
        bench.drop("told")
        bench.lay()

    def no_room(self, bench, pegs):
        before = everything(bench)
        told = []
        for _ in range(2):
            with self.assertRaises(errors.NoRoom) as caught:
                bench.lay()
            told.append(list(caught.exception.family))
            self.assertIs(type(caught.exception.family), list)
            caught.exception.family.clear()
        self.assertEqual(told[0], told[1])
        slots, tracks = [int(word) for word in str(bench).split("\n")[0].split(" ")[1:]]
        self.assertIs(bars(bench.netlist(), slots, tracks, pegs, told[0]), True)
        self.assertEqual(everything(bench), before)

    def test_a_family_that_bars(self):
        bench = bench_with(*FLIP, slots=6, tracks=2)
        self.assertEqual(bench.least(), 3)
        self.no_room(bench, ())
        bench.wire("next", 0, "now")
        bench.lay()

    def test_with_pegs(self):
        bench = bench_with(("input", "a"), ("input", "b"), ("output", "y", "a"), ("output", "z", "b"), slots=4, tracks=1)
        bench.lay()
        bench.peg("a", 0)
        bench.peg("y", 3)
        self.no_room(bench, ((0, 0), (2, 3)))
        self.assertIs(bench.stale(), False)
        bench.unpeg("y")
        bench.lay()
        self.assertEqual(bench.sheet()[0], "a")


if __name__ == "__main__":
    unittest.main()
