"""[11], [12] and the interface's section tracklay/tracks.py."""

import itertools
import random
import unittest

from tests import samples
from tracklay.errors import Absent, NoThing
from tracklay.nets import nets
from tracklay.places import loads
from tracklay.tracks import arrival, delay, routed, spans

A = ("in", "a", "", ())
B = ("in", "b", "", ())
ALONE = (("reg", "r", "0", ("r",)),)
WIRE = (A, ("out", "z", "", ("a",)))
TWO_WIRES = (A, B, ("out", "y", "", ("a",)), ("out", "z", "", ("b",)))
UNREAD = (A, B, ("gate", "g", "1", ()))
BOTH = (A, B, ("gate", "g", "0001", ("a", "b")), ("out", "z", "", ("g",)))
CHAIN = (A, ("gate", "g", "10", ("a",)), ("gate", "h", "10", ("g",)), ("reg", "r", "0", ("h",)),
         ("out", "z", "", ("r",)))


def spans_by_definition(netlist, placing):
    told = []
    for name, members in nets(netlist):
        slots = [placing.index(place) for place in members]
        told.append((name, min(slots), max(slots)))
    return told


def placings(netlist, slots):
    things = [*range(len(netlist))] + [-1] * (slots - len(netlist))
    return sorted(set(itertools.permutations(things)))


class Spans(unittest.TestCase):
    def test_in_the_order_of_nets(self):
        self.assertEqual(spans(BOTH, (0, 2, 1, 3)), [("a", 0, 1), ("b", 1, 2), ("g", 1, 3)])
        self.assertEqual(spans(BOTH, (3, 1, 2, 0)), [("a", 2, 3), ("b", 1, 2), ("g", 0, 2)])
        self.assertEqual(spans(TWO_WIRES, (1, 0, 2, 3)), [("a", 1, 2), ("b", 0, 3)])

    def test_empty_slots_under_a_net(self):
        self.assertEqual(spans(WIRE, (-1, 0, -1, -1, 1, -1)), [("a", 1, 4)])
        self.assertEqual(spans(WIRE, (1, -1, 0)), [("a", 0, 2)])

    def test_a_net_of_one_member(self):
        self.assertEqual(spans(ALONE, (0,)), [("r", 0, 0)])
        self.assertEqual(spans(ALONE, (-1, -1, 0, -1)), [("r", 2, 2)])

    def test_no_nets(self):
        self.assertEqual(spans(UNREAD, (2, 0, -1, 1)), [])
        self.assertEqual(spans((), (-1, -1)), [])

    def test_against_the_definition(self):
        for netlist, placing, _ in samples.some_layings(150, seed=1):
            self.assertEqual(spans(netlist, placing), spans_by_definition(netlist, placing))

    def test_kinds_of_values_by_name_and_asked_again(self):
        told = spans(placing=(0, 2, 1, 3), netlist=BOTH)
        self.assertIs(type(told), list)
        self.assertEqual({type(span) for span in told}, {tuple})
        self.assertEqual([type(worth) for worth in told[0]], [str, int, int])
        told.clear()
        self.assertEqual(len(spans(BOTH, (0, 2, 1, 3))), 3)


class Routed(unittest.TestCase):
    def check(self, netlist, placing, tracks):
        """What is told is right, by the loads, and told again."""
        told = routed(netlist, placing, tracks)
        self.assertIs(type(told), tuple)
        load = loads(netlist, placing)
        stretches = spans_by_definition(netlist, placing)
        over = [slot for slot in range(len(placing)) if load[slot] > tracks]
        if over:
            names = [name for name, left, right in stretches if left <= over[0] <= right]
            self.assertEqual(told, ("barred", over[0], names))
            self.assertIs(type(told[2]), list)
            self.assertGreater(len(names), tracks)
        else:
            word, routing = told
            self.assertEqual(word, "routed")
            self.assertIs(type(routing), list)
            self.assertEqual([row[:3] for row in routing], stretches)
            self.assertEqual({type(row) for row in routing} - {tuple}, set())
            taken = [(slot, track) for name, left, right, track in routing for slot in range(left, right + 1)]
            self.assertEqual(len(taken), len(set(taken)))
            for name, left, right, track in routing:
                self.assertIs(type(track), int)
                self.assertTrue(1 <= track <= tracks)
        self.assertEqual(routed(netlist, placing, tracks), told)
        return told

    def test_ordinary(self):
        self.assertEqual(self.check(BOTH, (0, 2, 1, 3), 3)[0], "routed")
        self.assertEqual(self.check(BOTH, (0, 2, 1, 3), 2), ("barred", 1, ["a", "b", "g"]))
        self.assertEqual(self.check(TWO_WIRES, (0, 2, 1, 3), 1), ("routed", [("a", 0, 1, 1), ("b", 2, 3, 1)]))

    def test_stretches_that_meet_in_one_slot(self):
        relay = (A, ("gate", "g", "10", ("a",)), ("out", "z", "", ("g",)))
        self.assertEqual(self.check(relay, (0, 1, 2), 1), ("barred", 1, ["a", "g"]))
        routing = self.check(relay, (0, 1, 2), 2)[1]
        self.assertNotEqual(routing[0][3], routing[1][3])

    def test_names_in_the_order_of_nets(self):
        self.assertEqual(self.check(TWO_WIRES, (1, 0, 2, 3), 1), ("barred", 1, ["a", "b"]))
        self.assertEqual(self.check(TWO_WIRES, (1, 0, 2, 3), 0), ("barred", 0, ["b"]))

    def test_tracks(self):
        for netlist, placing, _ in samples.some_layings(120, seed=2):
            worst = max(loads(netlist, placing))
            for tracks in sorted({0, 1, max(0, worst - 1), worst, worst + 1, 6, 1000, 10 ** 30}):
                told = self.check(netlist, placing, tracks)
                self.assertEqual(told[0] == "routed", tracks >= worst)

    def test_no_tracks(self):
        self.assertEqual(self.check(UNREAD, (0, 1, 2), 0), ("routed", []))
        self.assertEqual(self.check((), (-1,), 0), ("routed", []))
        self.assertEqual(self.check(ALONE, (-1, 0), 0), ("barred", 1, ["r"]))
        self.assertEqual(self.check(ALONE, (-1, 0), 1), ("routed", [("r", 1, 1, 1)]))

    def test_all_placings_of_small_netlists(self):
        for netlist in (WIRE, TWO_WIRES, BOTH, ALONE, UNREAD):
            for slots in (len(netlist), len(netlist) + 1):
                for placing in placings(netlist, slots):
                    for tracks in range(4):
                        self.check(netlist, placing, tracks)

    def test_by_name_and_told_lists_changed(self):
        for tracks in (2, 3):
            told = routed(tracks=tracks, netlist=BOTH, placing=(0, 2, 1, 3))
            kept = repr(told)
            told[-1].clear()
            self.assertEqual(repr(routed(BOTH, (0, 2, 1, 3), tracks)), kept)


def ways_to(netlist, end):
    """All ways of places, each read by the next, from where nothing is waited for to a thing's pins and it."""
    place_of = {thing[1]: place for place, thing in enumerate(netlist)}
    told = []
    for pin in sorted(set(netlist[end][3])):
        at = place_of[pin]
        if netlist[at][0] != "gate" or not netlist[at][3]:
            told.append((at, end))
        else:
            told.extend(way + (end,) for way in ways_to(netlist, at))
    return told


def time_of(netlist, placing, way):
    gates = [place for place in way if netlist[place][0] == "gate"]
    slots = [placing.index(place) for place in way]
    return 2 * len(gates) + sum(abs(left - right) for left, right in zip(slots, slots[1:]))


class Delay(unittest.TestCase):
    def check(self, netlist, placing):
        told = delay(netlist, placing)
        self.assertIs(type(told), tuple)
        number, way = told
        self.assertIs(type(number), int)
        self.assertIs(type(way), tuple)
        ends = [place for place, thing in enumerate(netlist) if thing[0] in ("reg", "out")]
        ways = [one for end in ends for one in ways_to(netlist, end)]
        self.assertEqual(number, max([time_of(netlist, placing, one) for one in ways], default=0))
        if ends:
            self.walk(netlist, placing, way, number)
        else:
            self.assertEqual(way, ())
        self.assertEqual(delay(netlist, placing), told)
        self.assertEqual(delay(netlist, placing[::-1])[0], number)
        return told

    def walk(self, netlist, placing, way, number):
        """The way leads step by step to a register or output, and its times add up."""
        self.assertGreater(len(way), 1)
        self.assertIn(netlist[way[-1]][0], ("reg", "out"))
        kind, name, bits, pins = netlist[way[0]]
        self.assertTrue(kind in ("in", "reg") or (kind == "gate" and not pins))
        time = 2 if kind == "gate" else 0
        self.assertEqual(arrival(netlist, placing, name), time)
        for one, other in zip(way, way[1:]):
            self.assertIn(netlist[one][1], netlist[other][3])
            time += abs(placing.index(one) - placing.index(other))
            if other != way[-1]:
                self.assertEqual(netlist[other][0], "gate")
                time += 2
                self.assertLessEqual(time, arrival(netlist, placing, netlist[other][1]))
        self.assertEqual(time, number)

    def test_ordinary(self):
        self.assertEqual(self.check(WIRE, (0, 1)), (1, (0, 1)))
        self.assertEqual(self.check(WIRE, (1, 0)), (1, (0, 1)))
        self.assertEqual(self.check(BOTH, (0, 2, 1, 3))[0], 5)
        self.assertEqual(self.check(BOTH, (0, 1, 2, 3)), (5, (0, 2, 3)))
        self.assertEqual(self.check(CHAIN, (0, 1, 2, 3, 4)), (7, (0, 1, 2, 3)))
        self.assertEqual(self.check(CHAIN, (4, 0, 2, 1, 3)), (9, (0, 1, 2, 3)))

    def test_empty_slots_between(self):
        self.assertEqual(self.check(WIRE, (-1, 0, -1, -1, 1, -1)), (3, (0, 1)))
        self.assertEqual(self.check(BOTH, (0, -1, 2, 1, -1, -1, -1, 3)), (9, (0, 2, 3)))

    def test_from_a_register_and_to_itself(self):
        self.assertEqual(self.check(ALONE, (0,)), (0, (0, 0)))
        self.assertEqual(self.check(ALONE, (-1, 0, -1)), (0, (0, 0)))
        turn = (("reg", "r", "0", ("g",)), ("gate", "g", "10", ("r",)))
        self.assertEqual(self.check(turn, (0, -1, 1)), (6, (0, 1, 0)))

    def test_from_a_gate_without_pins(self):
        self.assertEqual(self.check((("gate", "g", "1", ()), ("out", "z", "", ("g",))), (1, -1, 0)), (4, (0, 1)))

    def test_no_register_and_no_output(self):
        for netlist in ((), (A,), UNREAD, BOTH[:3], (A, ("gate", "g", "10", ("a",)), ("gate", "h", "10", ("g",)))):
            for placing in placings(netlist, max(1, len(netlist))):
                self.assertEqual(self.check(netlist, placing), (0, ()))

    def test_all_placings_of_small_netlists(self):
        for netlist in (WIRE, TWO_WIRES, BOTH, CHAIN):
            for placing in placings(netlist, len(netlist) + 1):
                self.check(netlist, placing)

    def test_some(self):
        for netlist, placing, _ in samples.some_layings(300, seed=3):
            self.check(netlist, placing)

    def test_by_name(self):
        self.assertEqual(delay(placing=(0, 1, 2, 3), netlist=BOTH), (5, (0, 2, 3)))


class Arrival(unittest.TestCase):
    def test_ordinary(self):
        told = [arrival(CHAIN, (4, 0, 2, 1, 3), name) for name in "aghr"]
        self.assertEqual(told, [0, 4, 7, 0])
        self.assertEqual(arrival(BOTH, (0, 2, 1, 3), "g"), 3)
        self.assertEqual(arrival(BOTH, (0, -1, -1, 1, 2, 3), "g"), 6)
        self.assertEqual(arrival(BOTH, (2, -1, -1, 1, 0, 3), "g"), 6)

    def test_a_gate_without_pins(self):
        for placing in placings(UNREAD, 4):
            self.assertEqual([arrival(UNREAD, placing, name) for name in "abg"], [0, 0, 2])

    def test_a_register_that_reads_itself(self):
        self.assertEqual(arrival(ALONE, (-1, 0), "r"), 0)

    def test_against_all_ways(self):
        for netlist, placing, _ in samples.some_layings(200, seed=4):
            for place, (kind, name, bits, pins) in enumerate(netlist):
                if kind == "out":
                    continue
                wanted = 0 if kind in ("in", "reg") else 2
                if kind == "gate" and pins:
                    wanted = max(time_of(netlist, placing, way) for way in ways_to(netlist, place))
                told = arrival(netlist, placing, name)
                self.assertEqual(told, wanted)
                self.assertIs(type(told), int)

    def test_refused(self):
        for name in ("z", "nobody", "", "A", "aa", " a"):
            with self.assertRaises(NoThing) as caught:
                arrival(BOTH, (0, 2, 1, 3), name)
            self.assertEqual(caught.exception.name, name)
            self.assertIsInstance(caught.exception, Absent)
        with self.assertRaises(NoThing):
            arrival((), (-1,), "a")

    def test_by_name(self):
        self.assertEqual(arrival(name="g", placing=(0, 2, 1, 3), netlist=BOTH), 3)


class AllThere(unittest.TestCase):
    def test_registers_that_reads_go_round(self):
        chance = random.Random(7)
        ring = tuple(("reg", name, "0", (pin,)) for name, pin in zip("pqrs", "qrsp"))
        for _ in range(30):
            placing = samples.some_placing(chance, ring, 7)
            number, way = delay(ring, placing)
            slots = [placing.index(place) for place in range(4)]
            self.assertEqual(number, max(abs(slots[at] - slots[(at + 1) % 4]) for at in range(4)))
            self.assertEqual(len(way), 2)


if __name__ == "__main__":
    unittest.main()
