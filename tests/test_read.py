"""[15], [16] and `read`."""

import random
import unittest

from tests import images, samples
from tests.images import LETTERS, tile
from tracklay import errors
from tracklay.image import image_of, in_order, read, sheet_of
from tracklay.nets import look

# The slots of a little good image: an input, a gate, a register, an output, nothing, in this order.
GOOD = [
    tile("in", told=1, joins="100"),
    tile("gate", "10", (1,), 2, joins="010"),
    tile("reg", "1", (2,), 3, joins="001"),
    tile("out", pins=(3,), joins="000"),
    tile(),
]
READ = (
    ("in", "a", "", ()),
    ("gate", "b", "10", ("a",)),
    ("reg", "c", "1", ("b",)),
    ("out", "d", "", ("c",)),
)


def changed(*pairs):
    """The good image with other tiles."""
    told = list(GOOD)
    for slot, text in pairs:
        told[slot] = text
    return told


class Good(unittest.TestCase):
    def test_ordinary(self):
        self.assertEqual(read(GOOD, 3, LETTERS[:5]), READ)
        self.assertEqual(read([tile()], 3, ("",)), ())
        self.assertEqual(read([tile("gate", "1")], 3, ("g",)), (("gate", "g", "1", ()),))

    def test_by_kinds_then_by_slots(self):
        image = [
            tile("out", pins=(1,), joins="100"),
            tile("reg", "0", (1,), 2, "110"),
            tile("in", told=1, joins="110"),
            tile("gate", "0111", (2, 1), 3, "111"),
            tile("in", joins="101"),
            tile("out", pins=(3,), joins="000"),
        ]
        self.assertEqual(read(image, 3, ("y", "r", "a", "g", "b", "z")), (
            ("in", "a", "", ()), ("in", "b", "", ()), ("reg", "r", "0", ("a",)), ("gate", "g", "0111", ("r", "a")),
            ("out", "y", "", ("a",)), ("out", "z", "", ("g",))))

    def test_other_sheets_and_any_text_where_nothing_lies(self):
        for text in ("", "a", "b", "what is this", "A", "z" * 99, "\n"):
            self.assertEqual(read(GOOD, 3, LETTERS[:4] + (text,)), READ)
        told = read(GOOD, 3, ("zz", "abcdefgh", "a", "y", ""))
        self.assertEqual(told, (("in", "zz", "", ()), ("gate", "abcdefgh", "10", ("zz",)),
                                ("reg", "a", "1", ("abcdefgh",)), ("out", "y", "", ("a",))))

    def test_the_image_of_a_laying_is_the_netlist(self):
        for netlist, placing, routing, tracks, _ in images.layings(250, seed=7):
            image = image_of(netlist, placing, routing, tracks)
            sheet = sheet_of(netlist, placing)
            told = read(image, tracks, sheet)
            names = tuple(thing[1] for thing in netlist)
            self.assertEqual(in_order(told, names), netlist)
            ranks = [{"in": 0, "gate": 1, "reg": 1, "out": 2}[thing[0]] for thing in told]
            self.assertEqual(ranks, sorted(ranks))
            slots = [(rank, sheet.index(thing[1])) for rank, thing in zip(ranks, told)]
            self.assertEqual(slots, sorted(slots))

    def test_any_good_image(self):
        for image, tracks, netlist in images.good_images(300):
            kept = list(image)
            told = read(image, tracks, LETTERS[:len(image)])
            self.assertEqual(told, netlist)
            self.assertIs(type(told), tuple)
            self.assertIsNone(look(told))
            self.assertEqual(image, kept)

    def test_by_name_and_again(self):
        self.assertEqual(read(sheet=LETTERS[:5], tracks=3, image=GOOD), READ)
        self.assertEqual(read(GOOD, 3, LETTERS[:5]), READ)

    def test_tracks_that_nobody_needs_may_be_joined(self):
        self.assertEqual(read([tile(joins="111"), tile(joins="000")], 3, ("", "")), ())
        self.assertEqual(read(changed((0, tile("in", told=1, joins="111"))), 3, LETTERS[:5]), READ)


class Faults(unittest.TestCase):
    def refused(self, image, name, slot=None, tracks=3, sheet=None):
        """The image is refused so, by the document's words too, and stays as it was."""
        kept = list(image)
        sheet = sheet or LETTERS[:len(image)]
        for _ in range(2):
            with self.assertRaises(errors.LayError) as caught:
                read(image, tracks, sheet)
            self.assertIs(type(caught.exception), getattr(errors, name))
            if slot is not None:
                self.assertEqual(vars(caught.exception), {"slot": slot})
                self.assertIs(type(caught.exception.slot), int)
        self.assertEqual(image, kept)
        self.assertEqual(images.read_by_definition(image, tracks, LETTERS), ("fault", name, slot))
        return caught.exception

    def bad(self, slot, text):
        self.refused(changed((slot, text)), "BadTile", slot)

    def test_another_length(self):
        for text in ("", "0", "0" * 24, "0" * 26, "0" * 28, GOOD[1][:-1], GOOD[1] + "0"):
            for slot in range(5):
                self.bad(slot, text)
        self.refused(["0" * 27], "BadTile", 0, tracks=2)
        self.refused(["0" * 27], "BadTile", 0, tracks=4)

    def test_another_sign(self):
        for sign in "2 ax-\n":
            for at in (0, 3, 11, 20, 23, 24, 26):
                self.bad(4, GOOD[4][:at] + sign + GOOD[4][at + 1:])
                self.bad(1, GOOD[1][:at] + sign + GOOD[1][at + 1:])

    def test_a_track_that_is_not_there(self):
        for track in (4, 5, 6, 7):
            self.bad(0, tile("in", told=track, joins="100"))
            self.bad(1, tile("gate", "10", (track,), 2, joins="010"))
            self.bad(1, tile("gate", "10", (1,), track, joins="010"))
            self.bad(1, tile("gate", "10001000", (1, 1, track), 2, joins="010"))
            self.bad(1, tile("gate", "1000", (1, track), 2, joins="010"))
            self.bad(2, tile("reg", "1", (track,), 3, joins="001"))
            self.bad(2, tile("reg", "1", (2,), track, joins="001"))
            self.bad(3, tile("out", pins=(track,)))
        self.refused([tile("in", told=2, joins="0")], "BadTile", 0, tracks=1)
        self.refused([tile("in", told=7, joins="000000")], "BadTile", 0, tracks=6)
        self.assertEqual(read([tile("in", told=6, joins="000000")], 6, ("a",)), (("in", "a", "", ()),))

    def test_nothing_has_none_at_all(self):
        for at in range(2, 24):
            self.bad(4, GOOD[4][:at] + "1" + GOOD[4][at + 1:])

    def test_an_input_pad_has_none_but_its_telling(self):
        pad = tile("in")
        for at in range(4, 21):
            self.bad(4, pad[:at] + "1" + pad[at + 1:])
        self.assertEqual(len(read(changed((4, tile("in", told=3))), 3, LETTERS[:5])), 5)

    def test_an_output_pad_has_none_but_its_one_pin(self):
        for at in [*range(4, 12), *range(15, 24)]:
            self.bad(3, GOOD[3][:at] + "1" + GOOD[3][at + 1:])
        for count in ("10", "11"):
            self.bad(3, "11" + count + GOOD[3][4:])
        self.bad(3, tile("out", pins=(3, 3)))
        self.bad(3, tile("out", pins=(3, 3, 3)))

    def test_a_register_has_one_bit_and_one_pin(self):
        for at in [*range(5, 12), *range(15, 21)]:
            self.bad(2, GOOD[2][:at] + "1" + GOOD[2][at + 1:])
        for count in ("00", "10", "11"):
            self.bad(2, "10" + count + GOOD[2][4:])
        self.bad(2, tile("reg", "1", (), 3, joins="001"))
        self.bad(2, tile("reg", "1", (2, 2), 3, joins="001"))

    def test_a_gate_has_its_own_pins_and_bits_alone(self):
        for many in range(4):
            own = tile("gate", "1" * 2 ** many, (1,) * many, 2, joins="010")
            self.assertEqual(read(changed((1, own)), 3, LETTERS[:5])[1],
                             ("gate", "b", "1" * 2 ** many, ("a",) * many))
            for at in [*range(4 + 2 ** many, 12), *range(12 + 3 * many, 21)]:
                self.bad(1, own[:at] + "1" + own[at + 1:])

    def test_joined_from_the_last_slot_on(self):
        for joins in ("100", "010", "001", "111"):
            self.bad(4, tile(joins=joins))
            self.refused([tile("in", told=1, joins=joins)], "BadTile", 0)

    def test_the_first_bad_tile(self):
        self.refused(changed((4, "x"), (2, "y")), "BadTile", 2)
        self.refused(changed((4, tile(joins="100")), (0, tile("out", pins=(1, 1), joins="100"))), "BadTile", 0)

    def test_short(self):
        self.refused(changed((1, tile("gate", "1", (), 1, "010"))), "Short", 1)
        self.refused([tile("in", told=1, joins="100"), tile(joins="100"), tile("in", told=1)], "Short", 2)
        self.refused([tile("in", told=1, joins="100"), tile("in", told=2, joins="110"),
                      tile("in", told=2, joins="100"), tile("in", told=1)], "Short", 2)
        self.refused([tile("reg", "0", (1,), 1, joins="100"), tile("reg", "0", (1,), 1)], "Short", 1)
        self.refused([tile("in", told=1, joins="100"), tile("in", told=1, joins="100"), tile("in", told=1)], "Short", 1)

    def test_no_short_on_other_wires(self):
        three = (("in", "a", "", ()), ("in", "b", "", ()), ("in", "c", "", ()))
        self.assertEqual(read([tile("in", told=1), tile("in", told=1), tile("in", told=1)], 3, LETTERS[:3]), three)
        self.assertEqual(read([tile("in", told=1, joins="111"), tile("in", told=2, joins="111"),
                               tile("in", told=3)], 3, LETTERS[:3]), three)
        self.assertEqual(read([tile("in", joins="111"), tile("in", joins="111"), tile("in")], 3, LETTERS[:3]), three)

    def test_loose_without_a_track(self):
        self.refused(changed((3, tile("out", pins=(0,)))), "Loose", 3)
        self.refused(changed((2, tile("reg", "1", (0,), 3, joins="001"))), "Loose", 2)
        for pins in ((0, 1), (1, 0), (0, 0)):
            self.refused(changed((1, tile("gate", "1000", pins, 2, joins="010"))), "Loose", 1)
        for pins in ((0, 1, 1), (1, 0, 1), (1, 1, 0), (0, 0, 0)):
            self.refused(changed((1, tile("gate", "10000000", pins, 2, joins="010"))), "Loose", 1)

    def test_loose_on_a_wire_to_which_nobody_tells(self):
        self.refused(changed((0, tile("in", told=1, joins="000"))), "Loose", 1)
        self.refused(changed((0, tile("in", told=0, joins="100"))), "Loose", 1)
        self.refused(changed((0, tile("in", told=2, joins="100"))), "Loose", 1)
        self.refused(changed((3, tile("out", pins=(1,)))), "Loose", 3)
        self.refused(changed((4, tile("out", pins=(3,)))), "Loose", 4)

    def test_the_first_loose_slot(self):
        self.refused(changed((3, tile("out", pins=(0,))), (1, tile("gate", "10", (3,), 2, joins="010"))), "Loose", 1)

    def test_too_big(self):
        for kind, most in (("in", 4), ("out", 4), ("reg", 4), ("gate", 8)):
            for many in (most, most + 1):
                image = [tile("gate" if kind == "gate" else "in", "1" if kind == "gate" else "", (), 1, "100")]
                extra = {"in": tile("in", joins="100"), "out": tile("out", pins=(1,), joins="100"),
                         "reg": tile("reg", "0", (1,), 0, "100"), "gate": tile("gate", "1", joins="100")}[kind]
                image += [extra] * (many - (1 if kind in ("in", "gate") else 0)) + [tile()]
                if many == most:
                    netlist = read(image, 3, LETTERS[:len(image)])
                    self.assertEqual(samples.count(netlist, kind), most)
                else:
                    self.refused(image, "TooBig")

    def test_too_big_by_gates_and_registers_together(self):
        gate, held = tile("gate", "1", joins="100"), tile("reg", "0", (1,), 0, "100")
        first = tile("in", told=1, joins="100")
        self.assertEqual(len(read([first] + [gate] * 5 + [held] * 3 + [tile()], 3, LETTERS[:10])), 9)
        self.refused([first] + [gate] * 5 + [held] * 4 + [tile()], "TooBig")
        self.refused([first] + [gate] * 6 + [held] * 3 + [tile()], "TooBig")

    def test_too_big_by_twelve_things(self):
        first, pad = tile("in", told=1, joins="100"), tile("in", joins="100")
        gate, out = tile("gate", "1", joins="100"), tile("out", pins=(1,), joins="100")
        self.assertEqual(len(read([first, pad] + [gate] * 8 + [out] * 2 + [tile()] * 2, 3, LETTERS)), 12)
        self.assertEqual(len(read([first, pad, pad, pad] + [gate] * 4 + [out] * 4 + [tile()] * 2, 3, LETTERS)), 12)
        self.refused([first, pad] + [gate] * 8 + [out] * 3 + [tile()], "TooBig")
        self.refused([first, pad, pad, pad] + [gate] * 5 + [out] * 4 + [tile()], "TooBig")
        self.refused([first, pad, pad, pad] + [gate] * 8 + [out, tile("out", pins=(1,))], "TooBig")

    def ring_is_told(self, image, sheet, tracks=3):
        told = self.refused(image, "Ring", tracks=tracks, sheet=sheet)
        ring = told.ring
        self.assertEqual(vars(told), {"ring": ring})
        self.assertIs(type(ring), tuple)
        self.assertGreater(len(ring), 0)
        self.assertEqual(len(set(ring)), len(ring))
        found = [images.parts(text, tracks) for text in image]
        wire = images.wire_of(image, tracks)
        for one, other in zip(ring, ring[1:] + ring[:1]):
            told_to = wire[found[sheet.index(one)][4], sheet.index(one)]
            slot = sheet.index(other)
            self.assertEqual(found[slot][0], "01")
            self.assertIn(told_to, [wire[track, slot] for track in found[slot][3][:found[slot][1]]])
        return ring

    def test_ring(self):
        self.assertEqual(self.ring_is_told([tile("gate", "10", (1,), 1)], ("g",)), ("g",))
        two = [tile("gate", "10", (1,), 2, "110"), tile("gate", "10", (2,), 1)]
        self.assertEqual(sorted(self.ring_is_told(two, ("zz", "abcdefgh"))), ["abcdefgh", "zz"])
        three = [tile("gate", "10", (1,), 2, "110"), tile("gate", "10", (2,), 3, "101"), tile("gate", "10", (3,), 1)]
        ring = self.ring_is_told(three, ("p", "q", "r"))
        self.assertIn("".join(ring), ("pqr", "qrp", "rpq"))
        self.refused(changed((1, tile("gate", "1000", (2, 1), 2, joins="010"))), "Ring")

    def test_no_ring_through_a_register(self):
        through = [tile("gate", "10", (1,), 2, "110"), tile("reg", "0", (2,), 1)]
        self.assertEqual(read(through, 3, ("g", "r")), (("gate", "g", "10", ("r",)), ("reg", "r", "0", ("g",))))

    def test_rings_of_some_images(self):
        many = 0
        for seed in range(150):
            image, tracks = images.some_image(seed, kinds=("gate", "gate", "in"), slots=6)
            if images.read_by_definition(image, tracks, LETTERS)[:2] == ("fault", "Ring"):
                self.ring_is_told(image, LETTERS[8:] + LETTERS[:8], tracks)
                many += 1
        self.assertGreater(many, 20)

    def test_two_at_once_the_first_is_told(self):
        last = [tile(joins="111")]
        short = [tile("in", told=1, joins="110"), tile("in", told=1, joins="010")]
        loose = [tile("out", pins=(3,), joins="010")]
        ring = [tile("gate", "10", (2,), 2, "000")]
        big = [tile("in")] * 5
        empty = [tile()]
        self.refused(short + loose + ring + big + last, "BadTile", 9)
        self.refused(loose + short + ring + big + empty, "Short", 2)
        self.refused(short + ring + big + empty, "Short", 1)
        self.refused(ring + big + loose + [tile()], "Loose", 6)
        self.refused(ring + loose + empty, "Loose", 1)
        self.refused(ring + big + empty, "TooBig")
        self.refused(ring + empty, "Ring")
        self.refused(loose + last, "BadTile", 1)
        self.refused(big + last, "BadTile", 5)
        self.refused(big + short, "BadTile", 6)
        self.refused(big + short + empty, "Short", 6)
        self.refused(big + loose + empty, "Loose", 5)

    def test_any_images(self):
        chance = random.Random(10)
        seen = {}
        for seed in range(1500):
            image, tracks = images.some_image(seed)
            for _ in range(chance.randrange(4)):
                self.spoil(chance, image)
            sheet = tuple(chance.sample(LETTERS, len(image)))
            wanted = images.read_by_definition(image, tracks, sheet)
            try:
                told = ("netlist", read(image, tracks, sheet))
            except errors.LayError as error:
                told = ("fault", type(error).__name__, getattr(error, "slot", None))
            self.assertEqual(told, wanted)
            seen[wanted[1] if wanted[0] == "fault" else "good"] = seen.get(wanted[1], 0) + 1
        self.assertEqual(sorted(seen), ["BadTile", "Loose", "Ring", "Short", "TooBig", "good"])

    def spoil(self, chance, image):
        """A bit of some tile turned, most often one that leaves it a tile."""
        slot = chance.randrange(len(image))
        at = chance.choice((12, 13, 14, 21, 22, 23, 24, 25, chance.randrange(len(image[slot]))))
        at = min(at, len(image[slot]) - 1)
        image[slot] = image[slot][:at] + ("1" if image[slot][at] == "0" else "0") + image[slot][at + 1:]


if __name__ == "__main__":
    unittest.main()
