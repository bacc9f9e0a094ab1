"""[13], [14], [18] and the interface's section tracklay/image.py without `read`."""

import random
import unittest

from tests import images, samples
from tests.images import tile
from tracklay.image import image_of, in_order, patch, patched, sheet_of, wires
from tracklay.tracks import spans

A = ("in", "a", "", ())
B = ("in", "b", "", ())
C = ("in", "c", "", ())
WIRE = (A, ("out", "z", "", ("a",)))
UNREAD = (A, ("gate", "g", "1", ()), ("reg", "r", "1", ("a",)))
THREE = (A, B, C, ("gate", "g", "01101001", ("c", "a", "b")), ("out", "z", "", ("g",)))


def image_by_definition(netlist, placing, routing, tracks):
    track_of = {row[0]: row[3] for row in routing}
    told = []
    for slot, place in enumerate(placing):
        joins = ""
        for track in range(1, tracks + 1):
            goes = any(row[3] == track and row[1] <= slot and slot + 1 <= row[2] for row in routing)
            joins += "1" if goes else "0"
        kind, name, bits, pins = netlist[place] if place >= 0 else ("", "", "", ())
        told.append(tile(kind, bits, [track_of[pin] for pin in pins], track_of.get(name, 0), joins))
    return told


class ImageOf(unittest.TestCase):
    def test_an_input_and_an_output(self):
        self.assertEqual(image_of(WIRE, (0, 1), [("a", 0, 1, 1)], 1), [
            "11" "00" "00000000" "000" "000" "000" "001" "1",
            "11" "01" "00000000" "001" "000" "000" "000" "0"])
        self.assertEqual(image_of(WIRE, (1, -1, 0, -1), [("a", 0, 2, 2)], 3), [
            "11" "01" "00000000" "010" "000" "000" "000" "010",
            "00" "00" "00000000" "000" "000" "000" "000" "010",
            "11" "00" "00000000" "000" "000" "000" "010" "000",
            "00" "00" "00000000" "000" "000" "000" "000" "000"])

    def test_a_gate_of_each_number_of_pins(self):
        for many, bits in ((0, "1"), (1, "10"), (2, "0111"), (3, "10010110")):
            netlist = (A, B, C, ("gate", "g", bits, ("c", "a", "b")[:many]), ("out", "z", "", ("g",)))
            placing = (0, 1, 2, 3, 4)
            routing = [(name, left, right, {"a": 4, "b": 6, "c": 1, "g": 5}[name])
                       for name, left, right in spans(netlist, placing)]
            told = image_of(netlist, placing, routing, 6)[3]
            pins = ("001", "100", "110")[:many]
            self.assertEqual(told, "01" + ("00", "01", "10", "11")[many] + bits.ljust(8, "0")
                             + "".join(pins).ljust(9, "0") + "101" + "000010")

    def test_a_register(self):
        for bit in "01":
            netlist = (A, ("reg", "r", bit, ("a",)), ("out", "z", "", ("r",)))
            told = image_of(netlist, (0, 1, 2), [("a", 0, 1, 2), ("r", 1, 2, 3)], 3)
            self.assertEqual(told[1], "10" "01" + bit + "0000000" "010" "000" "000" "011" "001")
        alone = (("reg", "r", "1", ("r",)),)
        self.assertEqual(image_of(alone, (-1, 0), [("r", 1, 1, 1)], 2),
                         ["0" * 26, "10" "01" "10000000" "001" "000" "000" "001" "00"])

    def test_what_nobody_reads_is_told_to_no_track(self):
        told = image_of(UNREAD, (1, 0, 2), [("a", 1, 2, 1)], 2)
        self.assertEqual(told, [
            "01" "00" "10000000" "000" "000" "000" "000" "00",
            "11" "00" "00000000" "000" "000" "000" "001" "10",
            "10" "01" "10000000" "001" "000" "000" "000" "00"])

    def test_one_thing_read_by_several_pins(self):
        netlist = (A, ("gate", "g", "01101001", ("a", "a", "a")))
        self.assertEqual(image_of(netlist, (1, 0), [("a", 0, 1, 1)], 1), [
            "01" "11" "01101001" "001" "001" "001" "000" "1",
            "11" "00" "00000000" "000" "000" "000" "001" "0"])

    def test_no_things(self):
        self.assertEqual(image_of((), (-1, -1), [], 4), ["0" * 28] * 2)

    def test_stretches_side_by_side_are_not_joined(self):
        netlist = (A, B, ("out", "y", "", ("a",)), ("out", "z", "", ("b",)))
        told = image_of(netlist, (0, 2, 1, 3), [("a", 0, 1, 1), ("b", 2, 3, 1)], 1)
        self.assertEqual([one[-1] for one in told], ["1", "0", "1", "0"])

    def test_some(self):
        seen = set()
        for netlist, placing, routing, tracks, _ in images.layings(300, seed=5):
            kept = list(routing)
            told = image_of(netlist, placing, routing, tracks)
            self.assertIs(type(told), list)
            self.assertEqual(told, image_by_definition(netlist, placing, routing, tracks))
            self.assertEqual({len(one) for one in told}, {24 + tracks})
            self.assertNotIn("1", told[-1][24:])
            self.assertEqual(routing, kept)
            seen.add(tracks)
        self.assertEqual(seen, {1, 2, 3, 4, 5, 6})

    def test_by_name_and_told_lists_changed(self):
        told = image_of(tracks=1, routing=[("a", 0, 1, 1)], placing=(0, 1), netlist=WIRE)
        kept = list(told)
        told.clear()
        self.assertEqual(image_of(WIRE, (0, 1), [("a", 0, 1, 1)], 1), kept)


class SheetOf(unittest.TestCase):
    def test_ordinary(self):
        self.assertEqual(sheet_of(WIRE, (1, 0)), ("z", "a"))
        self.assertEqual(sheet_of(THREE, (-1, 4, 0, -1, 3, 1, 2)), ("", "z", "a", "", "g", "b", "c"))
        self.assertEqual(sheet_of((), (-1, -1)), ("", ""))
        self.assertEqual(sheet_of(placing=(0, 1), netlist=WIRE), ("a", "z"))
        self.assertIs(type(sheet_of(WIRE, (1, 0))), tuple)

    def test_some(self):
        for netlist, placing, _ in samples.some_layings(60, seed=6):
            told = sheet_of(netlist, placing)
            self.assertEqual(len(told), len(placing))
            for name, place in zip(told, placing):
                self.assertEqual(name, netlist[place][1] if place >= 0 else "")


class Wires(unittest.TestCase):
    def test_ordinary(self):
        some = [tile(joins=joins) for joins in ("10", "11", "01", "00")]
        self.assertEqual(wires(some, 2), [(1, 0, 2), (1, 3, 3), (2, 0, 0), (2, 1, 3)])
        self.assertEqual(wires([tile(joins="000")], 3), [(1, 0, 0), (2, 0, 0), (3, 0, 0)])
        self.assertEqual(wires([tile(joins="1"), tile(joins="0")], 1), [(1, 0, 1)])
        self.assertEqual(wires([tile(joins="0"), tile(joins="0")], 1), [(1, 0, 0), (1, 1, 1)])

    def test_each_slot_of_each_track_in_just_one(self):
        for seed in range(200):
            image, tracks = images.some_image(seed)
            kept = list(image)
            told = wires(image, tracks)
            self.assertEqual(image, kept)
            self.assertEqual(told, sorted(set(images.wire_of(image, tracks).values())))
            covered = [(track, slot) for track, left, right in told for slot in range(left, right + 1)]
            self.assertEqual(covered, [(track, slot) for track in range(1, tracks + 1) for slot in range(len(image))])
            for track, left, right in told:
                self.assertTrue(all(image[slot][23 + track] == "1" for slot in range(left, right)))
                self.assertEqual(image[right][23 + track], "0")
                self.assertTrue(left == 0 or image[left - 1][23 + track] == "0")

    def test_kinds_of_values_by_name_and_asked_again(self):
        some = [tile(joins="10"), tile(joins="00")]
        told = wires(tracks=2, image=some)
        self.assertIs(type(told), list)
        self.assertEqual({type(one) for one in told}, {tuple})
        told.clear()
        self.assertEqual(wires(some, 2), [(1, 0, 1), (2, 0, 0), (2, 1, 1)])


class InOrder(unittest.TestCase):
    def test_ordinary(self):
        self.assertEqual(in_order(THREE, ("c", "a", "b", "g", "z")), (C, A, B) + THREE[3:])
        self.assertEqual(in_order(THREE, ("a", "b", "c", "g", "z")), THREE)
        self.assertEqual(in_order((), ()), ())
        self.assertEqual(in_order(names=("z", "a"), netlist=WIRE), (WIRE[1], WIRE[0]))
        self.assertIs(type(in_order(WIRE, ("a", "z"))), tuple)

    def test_some(self):
        chance = random.Random(8)
        for seed in range(50):
            netlist = samples.some_netlist(seed)
            names = tuple(thing[1] for thing in netlist)
            mixed = tuple(chance.sample(netlist, len(netlist)))
            self.assertEqual(in_order(mixed, names), netlist)
            self.assertEqual(in_order(netlist, tuple(thing[1] for thing in mixed)), mixed)


class Patches(unittest.TestCase):
    def test_ordinary(self):
        one = [tile("in", told=1), tile(), tile("out", pins=(1,))]
        other = [tile("in", told=2), tile(), tile("out", pins=(2,))]
        self.assertEqual(patch(one, other), [(0, other[0]), (2, other[2])])
        self.assertEqual(patch(other, one), [(0, one[0]), (2, one[2])])
        self.assertEqual(patch(one, one), [])
        self.assertEqual(patch(one, list(one)), [])
        self.assertEqual(patched(one, []), one)
        self.assertEqual(patched(one, [(1, other[0])]), [one[0], other[0], one[2]])

    def test_just_the_tiles_that_differ_there_and_back(self):
        chance = random.Random(9)
        for seed in range(200):
            one, tracks = images.some_image(seed)
            other = [chance.choice((text, text, images.tile(joins=text[24:]), text[:24] + "0" * tracks))
                     for text in one]
            some = patch(one, other)
            self.assertEqual(some, [(slot, other[slot]) for slot in range(len(one)) if one[slot] != other[slot]])
            self.assertEqual(patched(one, some), other)
            self.assertEqual(patched(other, patch(other, one)), one)
            mixed = chance.sample(some, len(some))
            self.assertEqual(patched(one, mixed), other)

    def test_one_behind_the_other(self):
        for seed in range(60):
            first, second, third = [images.some_image(100 * seed + at, slots=5)[0] for at in range(3)]
            both = patch(first, second) + patch(second, third)
            self.assertEqual(patched(first, both), third)
            self.assertEqual(patched(patched(first, patch(first, second)), patch(second, third)), third)

    def test_of_several_of_one_slot_the_last_one(self):
        base = [tile(), tile(), tile()]
        pad, gate = tile("in", told=1), tile("gate", "1", told=2)
        self.assertEqual(patched(base, [(1, pad), (1, gate)]), [base[0], gate, base[2]])
        self.assertEqual(patched(base, [(1, gate), (0, pad), (1, pad)]), [pad, pad, base[2]])
        self.assertEqual(patched(base, [(2, gate), (0, pad), (2, base[2])]), [pad, base[1], base[2]])

    def test_handed_lists_stay_and_told_ones_are_new(self):
        one, other = [tile(), tile("in")], [tile("in"), tile("in")]
        some = patch(old=one, new=other)
        self.assertIs(type(some), list)
        self.assertEqual({type(pair) for pair in some}, {tuple})
        told = patched(some=some, image=one)
        self.assertEqual((one, other, some), ([tile(), tile("in")], [tile("in"), tile("in")], [(0, tile("in"))]))
        told.clear()
        self.assertEqual(one, [tile(), tile("in")])
        told = patched(one, [])
        self.assertIsNot(told, one)
        told.clear()
        self.assertEqual(patched(one, some), other)
        some.clear()
        self.assertEqual(patch(one, other), [(0, tile("in"))])


if __name__ == "__main__":
    unittest.main()
