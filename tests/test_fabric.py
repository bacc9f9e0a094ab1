"""[17], [18] and the interface's section tracklay/fabric.py."""

import random
import unittest

from tests import images, samples
from tests.images import LETTERS, tile
from tracklay import errors
from tracklay.fabric import Fabric
from tracklay.image import image_of, patch, patched, read, sheet_of
from tracklay.meaning import begun, cycle

# An input, a gate that is 1 where input and register differ, the register that holds that, an output.
FLIP = [
    tile("in", told=1, joins="100"),
    tile("gate", "0110", (1, 3), 2, joins="011"),
    tile("reg", "0", (2,), 3, joins="001"),
    tile("out", pins=(3,), joins="000"),
]
TWO_HELD = [tile("reg", "1", (1,), 1), tile(), tile("reg", "0", (2,), 2, "010"), tile("out", pins=(2,))]


def some_row(chance, many):
    return "".join(chance.choice("01") for _ in range(many))


def all_asked(fabric):
    return fabric.image(), fabric.held(), len(fabric), str(fabric), repr(fabric)


class Cycle(unittest.TestCase):
    def test_ordinary(self):
        fabric = Fabric(FLIP, 3)
        self.assertEqual([fabric.cycle(row) for row in "1101"], ["0", "1", "0", "0"])
        self.assertEqual(fabric.held(), "1")

    def test_by_slots(self):
        image = [tile("out", pins=(2,), joins="111"), tile("in", told=1, joins="110"), tile("in", told=2, joins="110"),
                 tile("out", pins=(1,))]
        self.assertEqual([Fabric(image, 3).cycle(row) for row in ("00", "01", "10", "11")], ["00", "10", "01", "11"])
        turned = [tile("reg", "1", (2,), 1, "110"), tile("reg", "0", (1,), 2, "000")]
        fabric = Fabric(turned, 3)
        self.assertEqual(fabric.held(), "10")
        self.assertEqual(fabric.cycle(""), "")
        self.assertEqual(fabric.held(), "01")

    def test_nothing(self):
        fabric = Fabric([tile()], 3)
        self.assertEqual((fabric.cycle(""), fabric.held()), ("", ""))

    def test_any_good_image(self):
        chance = random.Random(1)
        for image, tracks, netlist in images.good_images(250):
            fabric = Fabric(image, tracks)
            held = begun(netlist)
            self.assertEqual(fabric.held(), held)
            for _ in range(5):
                row = some_row(chance, samples.count(netlist, "in"))
                told, behind = images.run_wires(image, tracks, held, row)
                self.assertEqual((told, behind), cycle(netlist, held, row))
                self.assertEqual(fabric.cycle(row), told)
                self.assertEqual(fabric.held(), behind)
                held = behind
            self.assertEqual(fabric.image(), image)

    def test_layings_run_as_their_netlists(self):
        for netlist, placing, routing, tracks, chance in images.layings(200, seed=8):
            image = image_of(netlist, placing, routing, tracks)
            sheet = sheet_of(netlist, placing)
            fabric = Fabric(image, tracks)
            held = begun(netlist)

            def by_slots(bits, kind):
                names = [thing[1] for thing in netlist if thing[0] == kind]
                return "".join(bits[names.index(name)] for name in sheet if name in names)

            self.assertEqual(fabric.held(), by_slots(held, "reg"))
            for _ in range(6):
                row = some_row(chance, samples.count(netlist, "in"))
                told, held = cycle(netlist, held, row)
                self.assertEqual(fabric.cycle(by_slots(row, "in")), by_slots(told, "out"))
                self.assertEqual(fabric.held(), by_slots(held, "reg"))

    def test_refused(self):
        fabric = Fabric(FLIP, 3)
        fabric.cycle("1")
        before = all_asked(fabric)
        for row in ("", "00", "111", "2", "x", " ", "-", "0 ", "\n"):
            with self.assertRaises(errors.BadRow):
                fabric.cycle(row)
            self.assertEqual(all_asked(fabric), before)
        for row in ("0", "1", " "):
            with self.assertRaises(errors.BadRow):
                Fabric([tile()], 3).cycle(row)

    def test_by_name(self):
        self.assertEqual(Fabric(tracks=3, image=FLIP).cycle(row="1"), "0")


class Hold(unittest.TestCase):
    def test_ordinary(self):
        fabric = Fabric(TWO_HELD, 3)
        self.assertEqual(fabric.held(), "10")
        for bits in ("00", "01", "10", "11"):
            self.assertIsNone(fabric.hold(bits))
            self.assertEqual(fabric.held(), bits)
            self.assertEqual(fabric.cycle(""), bits[1])
        self.assertIsNone(Fabric([tile()], 3).hold(""))
        self.assertIsNone(fabric.hold(bits="01"))

    def test_refused(self):
        fabric = Fabric(TWO_HELD, 3)
        fabric.hold("01")
        before = all_asked(fabric)
        for bits in ("", "0", "000", "02", "a1", "0 ", "--"):
            with self.assertRaises(errors.BadRow):
                fabric.hold(bits)
            self.assertEqual(all_asked(fabric), before)
        with self.assertRaises(errors.BadRow):
            Fabric([tile()], 3).hold("0")


class Made(unittest.TestCase):
    def test_refused(self):
        for image, name, fields in (
            (["x"], "BadTile", {"slot": 0}),
            ([tile(), tile(joins="100")], "BadTile", {"slot": 1}),
            ([tile("in", told=1, joins="100"), tile("in", told=1)], "Short", {"slot": 1}),
            ([tile("in"), tile("out", pins=(1,))], "Loose", {"slot": 1}),
            ([tile("in")] * 5, "TooBig", {}),
            ([tile(), tile("gate", "10", (1,), 1)], "Ring", {"ring": ("b",)}),
        ):
            with self.assertRaises(errors.LayError) as caught:
                Fabric(image, 3)
            self.assertIs(type(caught.exception), getattr(errors, name))
            self.assertEqual(vars(caught.exception), fields)

    def test_ring_by_letters(self):
        two = [tile()] * 12 + [tile("gate", "10", (1,), 2, "110"), tile("gate", "10", (2,), 1)]
        with self.assertRaises(errors.Ring) as caught:
            Fabric(two, 3)
        self.assertIn(caught.exception.ring, (("m", "n"), ("n", "m")))

    def test_any_images(self):
        chance = random.Random(2)
        for seed in range(300):
            image, tracks = images.some_image(seed)
            if chance.random() < 0.5:
                slot, at = chance.randrange(len(image)), chance.randrange(24 + tracks)
                image[slot] = image[slot][:at] + chance.choice("01") + image[slot][at + 1:]
            word, *rest = images.read_by_definition(image, tracks, LETTERS)
            if word == "netlist":
                self.assertEqual(Fabric(image, tracks).held(), begun(rest[0]))
            else:
                with self.assertRaises(getattr(errors, rest[0])) as caught:
                    Fabric(image, tracks)
                self.assertEqual(getattr(caught.exception, "slot", None), rest[1])

    def test_the_handed_image_is_not_kept(self):
        image = list(FLIP)
        fabric = Fabric(image, 3)
        image.clear()
        self.assertEqual((fabric.image(), len(fabric)), (FLIP, 4))
        told = fabric.image()
        self.assertIs(type(told), list)
        told[0] = "x"
        told.append("y")
        self.assertEqual(fabric.image(), FLIP)
        self.assertEqual(fabric.cycle("1"), "0")


class Lay(unittest.TestCase):
    def test_runs_the_patched_image(self):
        fabric = Fabric(FLIP, 3)
        fabric.cycle("1")
        self.assertIsNone(fabric.lay([(1, tile("gate", "1001", (1, 3), 2, joins="011"))]))
        self.assertEqual(fabric.held(), "1")
        self.assertEqual([fabric.cycle(row) for row in "010"], ["1", "0", "0"])
        self.assertEqual(fabric.image(), FLIP[:1] + [tile("gate", "1001", (1, 3), 2, joins="011")] + FLIP[2:])

    def test_a_register_in_a_slot_that_had_one_holds_on(self):
        fabric = Fabric(TWO_HELD, 3)
        fabric.hold("01")
        fabric.lay([(0, tile("reg", "1", (1,), 1)), (2, tile("reg", "0", (3,), 3, "001")),
                    (3, tile("out", pins=(3,)))])
        self.assertEqual(fabric.held(), "01")

    def test_another_one_begins_with_its_bit(self):
        fabric = Fabric(TWO_HELD, 3)
        fabric.hold("01")
        fabric.lay([(1, tile("reg", "1", (3,), 3))])
        self.assertEqual(fabric.held(), "011")
        fabric.hold("100")
        fabric.lay([(0, tile()), (1, tile())])
        self.assertEqual(fabric.held(), "0")
        fabric.lay([(1, tile("reg", "0", (3,), 3)), (0, tile("reg", "1", (1,), 1))])
        self.assertEqual(fabric.held(), "100")

    def test_a_gate_between_ends_it(self):
        fabric = Fabric([tile("reg", "0", (1,), 1)], 3)
        fabric.hold("1")
        fabric.lay([(0, tile("gate", "1", (), 1))])
        self.assertEqual(fabric.held(), "")
        fabric.lay([(0, tile("reg", "0", (1,), 1))])
        self.assertEqual(fabric.held(), "0")

    def test_of_several_of_one_slot_the_last_one(self):
        fabric = Fabric(TWO_HELD, 3)
        fabric.hold("01")
        some = [(1, "no tile"), (0, tile()), (1, tile("in", told=1)), (0, tile("reg", "1", (1,), 1))]
        kept = list(some)
        fabric.lay(some)
        self.assertEqual(some, kept)
        self.assertEqual(fabric.image(), [TWO_HELD[0], tile("in", told=1)] + TWO_HELD[2:])
        self.assertEqual(fabric.held(), "01")

    def test_none(self):
        fabric = Fabric(FLIP, 3)
        fabric.cycle("1")
        before = all_asked(fabric)
        self.assertIsNone(fabric.lay([]))
        self.assertIsNone(fabric.lay(some=[(2, FLIP[2])]))
        self.assertEqual(all_asked(fabric), before)

    def refused(self, fabric, some, name, fields):
        before = all_asked(fabric)
        twin = fabric.twin()
        kept = list(some)
        with self.assertRaises((errors.LayError, errors.Absent)) as caught:
            fabric.lay(some)
        self.assertIs(type(caught.exception), getattr(errors, name))
        self.assertEqual(vars(caught.exception), fields)
        self.assertEqual(all_asked(fabric), before)
        self.assertEqual(fabric, twin)
        self.assertEqual(fabric.cycle("1"), twin.cycle("1"))
        self.assertEqual(fabric.held(), twin.held())
        self.assertEqual(some, kept)

    def test_refused(self):
        fabric = Fabric(FLIP, 3)
        fabric.cycle("1")
        for slot in (4, 5, 14, 99, -1, -4, -99):
            self.refused(fabric, [(slot, tile())], "NoSlot", {})
            self.refused(fabric, [(0, "x"), (slot, tile())], "NoSlot", {})
            self.refused(fabric, [(slot, tile()), (0, tile())], "NoSlot", {})
        self.refused(fabric, [(0, "x")], "BadTile", {"slot": 0})
        self.refused(fabric, [(3, tile(joins="100")), (2, "0")], "BadTile", {"slot": 2})
        self.refused(fabric, [(3, tile("in", told=3))], "Short", {"slot": 3})
        self.refused(fabric, [(3, tile("in", told=3)), (0, tile())], "Short", {"slot": 3})
        self.refused(fabric, [(2, tile(joins="001"))], "Loose", {"slot": 1})
        self.refused(fabric, [(0, tile())], "Loose", {"slot": 1})
        self.refused(fabric, [(1, tile("gate", "0110", (1, 2), 2, joins="011"))], "Ring", {"ring": ("b",)})
        big = Fabric([tile("in")] * 4 + [tile()], 3)
        with self.assertRaises(errors.TooBig):
            big.lay([(4, tile("in"))])
        self.assertEqual(big, Fabric([tile("in")] * 4 + [tile()], 3))

    def test_from_any_good_image_to_any_other(self):
        chance = random.Random(3)
        by_size = {}
        many = 0
        for image, tracks, netlist in images.good_images(700):
            size = (len(image), tracks)
            if size in by_size:
                self.go_over(chance, by_size[size], image, tracks)
                many += 1
            by_size[size] = image
        self.assertGreater(many, 100)

    def go_over(self, chance, old, new, tracks):
        fabric = Fabric(old, tracks)
        fabric.hold(some_row(chance, len(fabric.held())))
        held = dict(zip([slot for slot, text in enumerate(old) if text[:2] == "10"], fabric.held()))
        some = patch(old, new)
        fabric.lay(chance.sample(some, len(some)))
        self.assertEqual(fabric.image(), new)
        wanted = [held.get(slot, text[4]) for slot, text in enumerate(new) if text[:2] == "10"]
        self.assertEqual(fabric.held(), "".join(wanted))
        netlist = read(new, tracks, LETTERS[:len(new)])
        row = some_row(chance, samples.count(netlist, "in"))
        told, behind = cycle(netlist, "".join(wanted), row)
        self.assertEqual((fabric.cycle(row), fabric.held()), (told, behind))
        self.assertEqual(patched(new, patch(new, old)), old)


class Rest(unittest.TestCase):
    def test_twin_goes_its_own_way(self):
        fabric = Fabric(FLIP, 3)
        fabric.cycle("1")
        twin = fabric.twin()
        self.assertIs(type(twin), Fabric)
        self.assertEqual(all_asked(twin), all_asked(fabric))
        self.assertEqual(twin, fabric)
        twin.cycle("1")
        self.assertEqual((fabric.held(), twin.held()), ("1", "0"))
        self.assertNotEqual(twin, fabric)
        twin.lay([(0, tile("gate", "1", (), 1, "100"))])
        self.assertEqual(fabric.image(), FLIP)
        self.assertEqual(fabric.cycle("0"), "1")
        fabric.lay([(3, tile())])
        self.assertEqual(twin.image()[3], FLIP[3])

    def test_len_str_repr(self):
        fabric = Fabric(FLIP, 3)
        self.assertEqual(len(fabric), 4)
        self.assertEqual(str(fabric), "\n".join(FLIP))
        self.assertEqual(repr(fabric), "Fabric(4 slots, 3 tracks)")
        one = Fabric([tile(joins="0")], 1)
        self.assertEqual((len(one), str(one), repr(one)), (1, "0" * 25, "Fabric(1 slots, 1 tracks)"))
        self.assertEqual(repr(Fabric([tile()] * 6, 3)), "Fabric(6 slots, 3 tracks)")

    def test_equal(self):
        fabric = Fabric(FLIP, 3)
        self.assertTrue(fabric == Fabric(list(FLIP), 3))
        self.assertFalse(fabric != Fabric(FLIP, 3))
        other = Fabric(FLIP, 3)
        other.hold("1")
        self.assertFalse(fabric == other)
        self.assertTrue(fabric != other)
        other.hold("0")
        self.assertTrue(fabric == other)
        self.assertFalse(fabric == Fabric(FLIP + [tile()], 3))
        self.assertFalse(fabric == Fabric([text + "0" for text in FLIP], 4))
        self.assertFalse(fabric == Fabric(FLIP[:3] + [tile()], 3))
        other.lay([(3, tile())])
        self.assertTrue(other == Fabric(FLIP[:3] + [tile()], 3))
        self.assertTrue(fabric == fabric)

    def test_equal_to_nothing_else(self):
        fabric = Fabric(FLIP, 3)
        for other in (None, 0, "", str(fabric), FLIP, tuple(FLIP), (FLIP, 3), {}, True):
            self.assertIs(fabric == other, False)
            self.assertIs(fabric != other, True)
            self.assertIs(other == fabric, False)

    def test_what_only_asks_changes_nothing(self):
        fabric = Fabric(FLIP, 3)
        fabric.cycle("1")
        twin = fabric.twin()
        for _ in range(2):
            all_asked(fabric)
            fabric.twin()
            self.assertTrue(fabric == twin)


if __name__ == "__main__":
    unittest.main()
