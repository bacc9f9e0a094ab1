"""[8], [9], `loads`, `keeps`, `placed` and `least_tracks`."""

import itertools
import random
import time
import unittest

from tests import samples
from tests.stages import bars_by_definition
from tracklay.nets import nets
from tracklay.places import bars, keeps, least_tracks, loads, placed

A = ("in", "a", "", ())
B = ("in", "b", "", ())
ALONE = (("reg", "r", "0", ("r",)),)
WIRE = (A, ("out", "z", "", ("a",)))
TWO_WIRES = (A, B, ("out", "y", "", ("a",)), ("out", "z", "", ("b",)))
UNREAD = (A, B, ("gate", "g", "1", ()))
BOTH = (A, B, ("gate", "g", "0001", ("a", "b")), ("out", "z", "", ("g",)))
ROUND = (("reg", "p", "0", ("q",)), ("reg", "q", "0", ("r",)), ("reg", "r", "0", ("p",)))

SMALL_SHAPES = ((1, 1, 1, 1), (1, 2, 1, 0), (0, 2, 1, 1), (2, 1, 0, 1), (1, 0, 1, 1))
SMALL = ((), (A,), ALONE, WIRE, TWO_WIRES, UNREAD, BOTH, ROUND) + tuple(
    samples.big_netlist(seed, *counts) for counts in SMALL_SHAPES for seed in range(4))
FULL_SHAPES = ((4, 4, 4, 0), (4, 4, 0, 4), (2, 6, 2, 2), (4, 0, 4, 4), (0, 8, 0, 4), (1, 4, 4, 3))


def loads_by_definition(netlist, placing):
    told = [0] * len(placing)
    for name, members in nets(netlist):
        slots = [placing.index(place) for place in members]
        for slot in range(len(placing)):
            told[slot] += min(slots) <= slot <= max(slots)
    return told


def keeps_by_definition(netlist, placing, slots, tracks, pegs):
    things = [place for place in placing if place != -1]
    if len(placing) != slots or sorted(things) != [*range(len(netlist))]:
        return False
    if any((place, slot) not in [(there, at) for at, there in enumerate(placing)] for place, slot in pegs):
        return False
    return max(loads_by_definition(netlist, placing), default=0) <= tracks


def all_placings(netlist, slots):
    things = [*range(len(netlist))] + [-1] * (slots - len(netlist))
    return sorted(set(itertools.permutations(things))) if len(netlist) <= slots else []


def some_pegs(netlist, slots, seed):
    """No pegs, one and two of them, pegs for all things, as far as there are things and slots."""
    chance = random.Random(seed)
    most = min(len(netlist), slots)
    told = []
    for many in sorted({0, min(1, most), min(2, most), most}):
        told.append(tuple(zip(chance.sample(range(len(netlist)), many), chance.sample(range(slots), many))))
    return told


class Loads(unittest.TestCase):
    def test_ordinary(self):
        self.assertEqual(loads(BOTH, (0, 2, 1, 3)), [1, 3, 2, 1])
        self.assertEqual(loads(BOTH, (3, 0, 1, 2)), [1, 2, 3, 3])
        self.assertEqual(loads(samples.COUNTER, tuple(range(9))), [1, 3, 5, 6, 5, 4, 3, 2, 1])

    def test_empty_slots(self):
        self.assertEqual(loads(WIRE, (-1, 0, -1, -1, 1, -1)), [0, 1, 1, 1, 1, 0])
        self.assertEqual(loads(TWO_WIRES, (0, -1, 2, -1, 3, -1, 1)), [1, 1, 1, 0, 1, 1, 1])

    def test_a_net_of_one_member(self):
        self.assertEqual(loads(ALONE, (0,)), [1])
        self.assertEqual(loads(ALONE, (-1, 0, -1)), [0, 1, 0])

    def test_no_nets_and_no_things(self):
        self.assertEqual(loads(UNREAD, (2, 0, -1, 1)), [0, 0, 0, 0])
        self.assertEqual(loads((), (-1, -1)), [0, 0])
        self.assertEqual(loads((), ()), [])

    def test_all_placings_of_small_netlists(self):
        for netlist in SMALL:
            for slots in (len(netlist), len(netlist) + 1):
                for placing in all_placings(netlist, slots):
                    self.assertEqual(loads(netlist, placing), loads_by_definition(netlist, placing))

    def test_some(self):
        chance = random.Random(3)
        for counts in FULL_SHAPES:
            netlist = samples.big_netlist(5, *counts)
            for _ in range(20):
                placing = tuple(chance.sample([*range(12), -1, -1], 14))
                self.assertEqual(loads(netlist, placing), loads_by_definition(netlist, placing))

    def test_kinds_of_values_and_asked_again(self):
        told = loads(netlist=BOTH, placing=(0, 2, 1, 3))
        self.assertIs(type(told), list)
        self.assertEqual({type(load) for load in told}, {int})
        told.clear()
        self.assertEqual(loads(BOTH, (0, 2, 1, 3)), [1, 3, 2, 1])


class Keeps(unittest.TestCase):
    def test_ordinary(self):
        self.assertIs(keeps(BOTH, (0, 2, 1, 3), 4, 3, ()), True)
        self.assertIs(keeps(BOTH, (0, 2, 1, 3), 4, 2, ()), False)
        self.assertIs(keeps(BOTH, (0, 2, 1, 3), 4, 3, ((2, 1), (0, 0))), True)
        self.assertIs(keeps(BOTH, (0, 2, 1, 3), 4, 3, ((0, 0), (2, 1))), True)
        self.assertIs(keeps(pegs=((2, 1),), tracks=3, slots=4, placing=(0, 2, 1, 3), netlist=BOTH), True)

    def test_too_short_and_too_long(self):
        self.assertIs(keeps(WIRE, (0, 1), 2, 1, ()), True)
        for placing in ((), (0,), (0, 1, -1), (-1, 0, 1), (0, 1, 0)):
            self.assertIs(keeps(WIRE, placing, 2, 1, ()), False)
        self.assertIs(keeps(WIRE, (0, 1), 3, 1, ()), False)
        self.assertIs(keeps(WIRE, (0, 1), 1, 1, ()), False)

    def test_places_that_do_not_do(self):
        for placing in ((0, 0, 1), (0, -1, -1), (-1, 1, -1), (-1, -1, -1), (0, 1, 2), (0, 2, -1), (0, 1, -2),
                        (0, 1, 99), (-2, -2, -2), (0, 1, 1), (0, 1, -99)):
            self.assertIs(keeps(WIRE, placing, 3, 9, ()), False)
        for placing in ((0, 1, -1), (0, -1, 1), (-1, 1, 0)):
            self.assertIs(keeps(WIRE, placing, 3, 9, ()), True)

    def test_pegs_not_kept(self):
        placing = (-1, 1, 0)
        kept = ((1, 1), (0, 2))
        for many in range(3):
            for pegs in itertools.permutations(kept, many):
                self.assertIs(keeps(WIRE, placing, 3, 1, pegs), True)
        for pegs in (((0, 0),), ((0, 1),), ((1, 2),), ((1, 1), (0, 0)), ((1, 2), (0, 1)), ((0, 2), (1, 0))):
            self.assertIs(keeps(WIRE, placing, 3, 1, pegs), False)

    def test_a_peg_in_a_slot_that_is_not_there(self):
        for slot in (3, 4, 14, 99, -1, -2, -3, -99):
            for place in (0, 1):
                self.assertIs(keeps(WIRE, (-1, 1, 0), 3, 1, ((place, slot),)), False)
        self.assertIs(keeps(WIRE, (-1, 1, 0), 3, 1, ((1, 1), (0, 3))), False)

    def test_tracks(self):
        for tracks in (3, 4, 6, 7, 10 ** 9, 10 ** 30):
            self.assertIs(keeps(BOTH, (0, 2, 1, 3), 4, tracks, ()), True)
        for tracks in (2, 1, 0, -1, -10 ** 30):
            self.assertIs(keeps(BOTH, (0, 2, 1, 3), 4, tracks, ()), False)
        self.assertIs(keeps(UNREAD, (0, 1, 2), 3, 0, ()), True)
        self.assertIs(keeps(UNREAD, (0, 1, 2), 3, -1, ()), False)
        self.assertIs(keeps((), (-1,), 1, 0, ()), True)
        self.assertIs(keeps((), (-1,), 1, -1, ()), False)
        self.assertIs(keeps(ALONE, (0,), 1, 0, ()), False)
        self.assertIs(keeps(ALONE, (0,), 1, 1, ()), True)

    def test_slots(self):
        self.assertIs(keeps((), (), 0, 0, ()), True)
        self.assertIs(keeps((), (), 0, 5, ()), True)
        self.assertIs(keeps((), (-1,), 0, 5, ()), False)
        self.assertIs(keeps(WIRE, (), 0, 5, ()), False)
        self.assertIs(keeps(WIRE, (0, 1), 0, 5, ()), False)
        for slots in (-1, -2, 15, 10 ** 9, 10 ** 30, -10 ** 30):
            self.assertIs(keeps((), (), slots, 5, ()), False)
            self.assertIs(keeps(WIRE, (0, 1), slots, 5, ()), False)
        self.assertIs(keeps(WIRE, (-1,) * 20 + (0, 1), 22, 1, ((1, 21),)), True)

    def test_all_tuples_of_small_netlists(self):
        for netlist in ((), ALONE, WIRE):
            for length in range(4):
                for placing in itertools.product(range(-2, len(netlist) + 1), repeat=length):
                    for slots, tracks in itertools.product(range(4), range(3)):
                        for pegs in ((), ((0, 0),), ((0, 2),)) if netlist else ((),):
                            self.assertIs(keeps(netlist, placing, slots, tracks, pegs),
                                          keeps_by_definition(netlist, placing, slots, tracks, pegs))

    def test_all_placings_of_small_netlists(self):
        for seed, netlist in enumerate(SMALL):
            for slots in (max(1, len(netlist)), len(netlist) + 1):
                for pegs in some_pegs(netlist, slots, seed):
                    for placing in all_placings(netlist, slots):
                        for tracks in range(4):
                            self.assertIs(keeps(netlist, placing, slots, tracks, pegs),
                                          keeps_by_definition(netlist, placing, slots, tracks, pegs))


class Placed(unittest.TestCase):
    def check(self, netlist, slots, tracks, pegs):
        """What is told, held against what a placing or a family must be."""
        told = placed(netlist, slots, tracks, pegs)
        self.assertIs(type(told), tuple)
        self.assertEqual(len(told), 2)
        case = (netlist, slots, tracks, pegs, told)
        if told[0] == "placed":
            self.assertIs(type(told[1]), tuple)
            self.assertTrue(all(type(place) is int for place in told[1]))
            self.assertTrue(keeps_by_definition(netlist, told[1], slots, tracks, pegs), case)
            self.assertIs(keeps(netlist, told[1], slots, tracks, pegs), True)
        else:
            self.assertEqual(told[0], "barred")
            self.assertIs(type(told[1]), list)
            self.assertTrue(all(type(stage) is tuple and len(stage) == 2 for stage in told[1]))
            self.assertTrue(bars_by_definition(netlist, slots, tracks, pegs, told[1]), case)
            self.assertIs(bars(netlist, slots, tracks, pegs, told[1]), True)
        return told

    def least_by_going_through(self, netlist, slots, pegs):
        """The least number of tracks among all placings, None where none keeps the pegs."""
        worst = [max(loads_by_definition(netlist, placing), default=0) for placing in all_placings(netlist, slots)
                 if all(placing[slot] == place for place, slot in pegs)]
        return min(worst, default=None)

    def test_against_all_placings(self):
        words = []
        for seed, netlist in enumerate(SMALL):
            for slots in range(1, 6):
                for pegs in some_pegs(netlist, slots, seed):
                    least = self.least_by_going_through(netlist, slots, pegs)
                    self.assertEqual(least_tracks(netlist, slots, pegs), least)
                    for tracks in (0, 1, 2, 3, 4, 50):
                        word = self.check(netlist, slots, tracks, pegs)[0]
                        self.assertEqual(word == "placed", least is not None and least <= tracks)
                        words.append(word)
        self.assertGreater(words.count("placed"), 200)
        self.assertGreater(words.count("barred"), 200)

    def test_no_things(self):
        for slots in (1, 2, 14):
            self.assertEqual(placed((), slots, 0, ()), ("placed", (-1,) * slots))

    def test_more_things_than_slots(self):
        for netlist in SMALL:
            for slots in range(1, len(netlist)):
                for tracks in (0, 6, 100):
                    self.assertEqual(self.check(netlist, slots, tracks, ()), ("barred", []))
        self.assertEqual(placed(BOTH, 3, 6, ((0, 0), (3, 2))), ("barred", []))

    def test_as_many_things_as_slots(self):
        self.assertEqual(self.check(BOTH, 4, 3, ())[0], "placed")
        self.assertEqual(self.check(BOTH, 4, 2, ())[0], "barred")
        self.assertEqual(sorted(placed(BOTH, 4, 3, ())[1]), [0, 1, 2, 3])

    def test_tracks_from_none_to_far_more_than_nets(self):
        self.assertEqual(self.check(UNREAD, 3, 0, ())[0], "placed")
        self.assertEqual(self.check(WIRE, 3, 0, ())[0], "barred")
        self.assertEqual(self.check(ALONE, 1, 0, ())[0], "barred")
        self.assertEqual(self.check(ALONE, 1, 1, ())[0], "placed")
        for tracks in (7, 1000, 10 ** 30):
            self.assertEqual(self.check(BOTH, 5, tracks, ())[0], "placed")

    def test_pegs_in_either_order(self):
        for pegs in itertools.permutations(((0, 3), (2, 0), (3, 4))):
            self.assertEqual(self.check(TWO_WIRES, 5, 1, pegs)[0], "barred")
            self.assertEqual(self.check(TWO_WIRES, 5, 2, pegs)[0], "placed")

    def test_pegs_that_forbid_each_others_way(self):
        crossed = ((0, 0), (2, 2), (1, 1), (3, 3))
        self.assertEqual(self.check(TWO_WIRES, 4, 1, ())[0], "placed")
        self.assertEqual(self.check(TWO_WIRES, 4, 1, crossed)[0], "barred")
        self.assertEqual(self.check(TWO_WIRES, 4, 1, crossed[:2])[0], "barred")
        self.assertEqual(self.check(TWO_WIRES, 5, 1, ((0, 0), (2, 2)))[0], "placed")
        self.assertEqual(placed(TWO_WIRES, 4, 2, crossed), ("placed", (0, 1, 2, 3)))

    def test_pegs_on_all_slots(self):
        for places in itertools.permutations(range(4)):
            pegs = tuple(zip(places, range(4)))
            worst = max(loads_by_definition(BOTH, places))
            self.assertEqual(self.check(BOTH, 4, worst, pegs), ("placed", places))
            self.assertEqual(self.check(BOTH, 4, worst - 1, pegs)[0], "barred")

    def test_a_peg_in_a_slot_that_is_not_there(self):
        for slot in (4, 5, 14, 99):
            self.assertEqual(self.check(WIRE, 4, 6, ((0, slot),))[0], "barred")
            self.assertIsNone(least_tracks(WIRE, 4, ((0, slot),)))

    def test_twelve_things_in_fourteen_slots(self):
        for at, counts in enumerate(FULL_SHAPES):
            netlist = samples.big_netlist(at, *counts)
            least = least_tracks(netlist, 14, ())
            for tracks in sorted({0, 1, 3, max(0, least - 1), least, 6, 100}):
                before = time.perf_counter()
                told = placed(netlist, 14, tracks, ())
                self.assertLess(time.perf_counter() - before, 1)
                self.assertEqual(told[0] == "placed", tracks >= least)
            for tracks in sorted({max(0, least - 1), least}):
                self.check(netlist, 14, tracks, ())

    def test_twelve_things_in_fourteen_slots_with_pegs(self):
        chance = random.Random(4)
        for at, counts in enumerate(FULL_SHAPES):
            netlist = samples.big_netlist(at, *counts)
            for many in (1, 2, 4, 12):
                pegs = tuple(zip(chance.sample(range(12), many), chance.sample(range(14), many)))
                least = least_tracks(netlist, 14, pegs)
                for tracks in sorted({max(0, least - 1), least, 6}):
                    before = time.perf_counter()
                    told = placed(netlist, 14, tracks, pegs)
                    self.assertLess(time.perf_counter() - before, 1)
                    self.assertEqual(told[0] == "placed", tracks >= least)
                    if many != 1:
                        self.check(netlist, 14, tracks, pegs)

    def test_where_next_to_all_stages_can_be_come_to(self):
        tied = (("reg", "p", "0", ("g",)), ("reg", "q", "0", ("p",)), ("gate", "g", "0110", ("p", "q")))
        netlist = (*(("in", name, "", ()) for name in "abcd"), *tied, *(("gate", name, "1", ()) for name in "stuvw"))
        self.assertEqual(len(netlist), 12)
        before = time.perf_counter()
        told = placed(netlist, 14, 2, ())
        self.assertLess(time.perf_counter() - before, 1)
        self.assertEqual(told[0], "barred")
        self.assertGreater(len(told[1]), 4000)
        self.assertIs(bars(netlist, 14, 2, (), told[1]), True)
        self.assertEqual(self.check(netlist, 14, 3, ())[0], "placed")

    def test_somewhat_beyond_the_bounds(self):
        self.assertEqual(self.check(WIRE, 20, 1, ((0, 2), (1, 18)))[0], "placed")
        self.assertEqual(placed((), 0, 1, ()), ("placed", ()))
        self.assertEqual(placed(WIRE, 0, 1, ()), ("barred", []))

    def test_by_name_and_asked_again(self):
        for netlist in (BOTH, TWO_WIRES, samples.big_netlist(2, 2, 3, 1, 2)):
            for tracks in (0, 1, 2, 3, 9):
                told = placed(tracks=tracks, pegs=((1, 2),), slots=9, netlist=netlist)
                again = (told[0], told[1][:])
                if told[0] == "barred":
                    told[1].clear()
                self.assertEqual(placed(netlist, 9, tracks, ((1, 2),)), again)
        told = placed(BOTH, 2, 3, ())
        told[1].append((0, 0))
        self.assertEqual(placed(BOTH, 2, 3, ()), ("barred", []))


class LeastTracks(unittest.TestCase):
    def test_ordinary(self):
        self.assertEqual(least_tracks(BOTH, 4, ()), 3)
        self.assertEqual(least_tracks(TWO_WIRES, 4, ()), 1)
        self.assertEqual(least_tracks(WIRE, 2, ()), 1)
        self.assertEqual(least_tracks(ALONE, 1, ()), 1)
        self.assertEqual(least_tracks(ROUND, 3, ()), 3)
        self.assertEqual(least_tracks(TWO_WIRES, 4, ((0, 0), (2, 3))), 2)
        self.assertEqual(least_tracks(pegs=((0, 0), (2, 2)), slots=5, netlist=TWO_WIRES), 1)

    def test_no_nets(self):
        for slots in (3, 4, 14):
            self.assertEqual(least_tracks(UNREAD, slots, ()), 0)
            self.assertEqual(least_tracks(UNREAD, slots, ((1, 2), (0, 0))), 0)
            self.assertEqual(least_tracks((), slots, ()), 0)
        self.assertIs(type(least_tracks((), 1, ())), int)

    def test_more_things_than_slots(self):
        for netlist in SMALL:
            for slots in range(1, len(netlist)):
                self.assertIsNone(least_tracks(netlist, slots, ()))
        self.assertIsNone(least_tracks(UNREAD, 2, ((0, 1),)))

    def test_the_least_for_which_there_is_a_placing(self):
        chance = random.Random(9)
        for seed in range(30):
            netlist = samples.some_netlist(seed)
            slots = max(1, len(netlist)) + chance.randrange(2)
            many = min(2, len(netlist))
            pegs = tuple(zip(chance.sample(range(len(netlist)), many), chance.sample(range(slots), many)))
            least = least_tracks(netlist, slots, pegs)
            self.assertEqual(placed(netlist, slots, least, pegs)[0], "placed")
            if least:
                self.assertEqual(placed(netlist, slots, least - 1, pegs)[0], "barred")

    def test_one_slot_more_or_a_peg_less_needs_no_more(self):
        chance = random.Random(11)
        for seed in range(25):
            netlist = samples.big_netlist(seed, 2, 3, 1, 2)
            pegs = tuple(zip(chance.sample(range(8), 3), chance.sample(range(8), 3)))
            least = least_tracks(netlist, 8, pegs)
            self.assertLessEqual(least_tracks(netlist, 9, pegs), least)
            for at in range(3):
                self.assertLessEqual(least_tracks(netlist, 8, pegs[:at] + pegs[at + 1:]), least)
            self.assertEqual(least_tracks(netlist, 8, pegs[::-1]), least)

    def test_twelve_things_in_fourteen_slots(self):
        for at, counts in enumerate(FULL_SHAPES):
            netlist = samples.big_netlist(at, *counts)
            before = time.perf_counter()
            least = least_tracks(netlist, 14, ())
            with_pegs = least_tracks(netlist, 14, ((3, 13), (11, 0)))
            self.assertLess(time.perf_counter() - before, 4)
            self.assertLessEqual(least, with_pegs)
            self.assertLessEqual(with_pegs, len(nets(netlist)))


if __name__ == "__main__":
    unittest.main()
