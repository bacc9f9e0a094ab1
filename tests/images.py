"""Images by the document's words, for the tests: tiles written out, faults looked for, wires run."""

import random
import re

from tests import samples
from tracklay.places import loads
from tracklay.tracks import routed

LETTERS = tuple("abcdefghijklmn")
KINDS = {"": "00", "gate": "01", "reg": "10", "in": "11", "out": "11"}


def tile(kind="", bits="", pins=(), told=0, joins="000"):
    """A tile, written part by part; pins and told are tracks."""
    tracks = [*pins, 0, 0, 0][:3] + [told]
    return (KINDS[kind] + format(len(pins), "02b") + (bits + "00000000")[:8]
            + "".join(format(track, "03b") for track in tracks) + joins)


def parts(text, tracks):
    """(kind, count, bits, three pins' tracks, telling, joins), or None for another length or sign."""
    found = re.fullmatch("([01]{2})([01]{2})([01]{8})([01]{3})([01]{3})([01]{3})([01]{3})([01]{%d})" % tracks, text)
    if not found:
        return None
    code, count, bits, *numbers, joins = found.groups()
    numbers = [int(number, 2) for number in numbers]
    return code, int(count, 2), bits, numbers[:3], numbers[3], joins


def is_bad(text, tracks, last):
    """Whether a text is no tile, sentence by sentence."""
    found = parts(text, tracks)
    if found is None:
        return True
    code, count, bits, pins, told, joins = found
    if any(track > tracks for track in pins + [told]):
        return True
    if last and "1" in joins:
        return True
    if code == "00":
        return count != 0 or "1" in bits or any(pins) or told != 0
    if code == "11" and count == 0:
        return "1" in bits or any(pins)
    if code == "11":
        return count != 1 or "1" in bits or any(pins[1:]) or told != 0
    if code == "10":
        return count != 1 or "1" in bits[1:] or any(pins[1:])
    return "1" in bits[2 ** count:] or any(pins[count:])


def wire_of(image, tracks):
    """The wire (track, left, right) of each pair (track, slot), walked to both sides."""
    joined = [parts(text, tracks)[5] for text in image]
    told = {}
    for track in range(1, tracks + 1):
        for slot in range(len(image)):
            left = right = slot
            while left > 0 and joined[left - 1][track - 1] == "1":
                left -= 1
            while joined[right][track - 1] == "1":
                right += 1
            told[track, slot] = (track, left, right)
    return told


def kind_of(found):
    return {"00": "", "01": "gate", "10": "reg", "11": "out" if found[1] else "in"}[found[0]]


def read_by_definition(image, tracks, sheet):
    """("fault", class, slot) with None where the class has no slot, or ("netlist", the netlist)."""
    for slot, text in enumerate(image):
        if is_bad(text, tracks, slot == len(image) - 1):
            return ("fault", "BadTile", slot)
    found = [parts(text, tracks) for text in image]
    wire = wire_of(image, tracks)
    tellers = {}
    for slot, one in enumerate(found):
        if one[4]:
            tellers.setdefault(wire[one[4], slot], []).append(slot)
    shorts = [slots[1] for slots in tellers.values() if len(slots) > 1]
    if shorts:
        return ("fault", "Short", min(shorts))
    for slot, one in enumerate(found):
        if any(not track or wire[track, slot] not in tellers for track in one[3][:one[1]]):
            return ("fault", "Loose", slot)
    things = []
    for slot, one in enumerate(found):
        kind = kind_of(one)
        bits = one[2][:{"gate": 2 ** one[1], "reg": 1}.get(kind, 0)]
        pins = tuple(sheet[tellers[wire[track, slot]][0]] for track in one[3][:one[1]])
        if kind:
            things.append((kind, sheet[slot], bits, pins))
    netlist = tuple([thing for thing in things if thing[0] == "in"]
                    + [thing for thing in things if thing[0] in ("gate", "reg")]
                    + [thing for thing in things if thing[0] == "out"])
    many = {kind: samples.count(netlist, kind) for kind in ("in", "gate", "reg", "out")}
    if (many["in"] > 4 or many["out"] > 4 or many["reg"] > 4 or many["gate"] + many["reg"] > 8 or len(netlist) > 12):
        return ("fault", "TooBig", None)
    if samples.has_ring(netlist):
        return ("fault", "Ring", None)
    return ("netlist", netlist)


def run_wires(image, tracks, held, row):
    """One cycle of a good image by its wires alone: (told row, bits held behind), by slots."""
    found = [parts(text, tracks) for text in image]
    kinds = [kind_of(one) for one in found]
    wire = wire_of(image, tracks)
    bit_on = {}
    waiting = []
    row, held = list(row), list(held)
    for slot, one in enumerate(found):
        if kinds[slot] == "in":
            bit_on[wire.get((one[4], slot))] = row.pop(0)
        elif kinds[slot] == "reg":
            bit_on[wire.get((one[4], slot))] = held.pop(0)
        elif kinds[slot] == "gate":
            waiting.append(slot)
    bit_on.pop(None, None)
    while waiting:
        for slot in list(waiting):
            hangs = [wire[track, slot] for track in found[slot][3][:found[slot][1]]]
            if all(one in bit_on for one in hangs):
                waiting.remove(slot)
                if found[slot][4]:
                    number = int("0" + "".join(bit_on[one] for one in hangs), 2)
                    bit_on[wire[found[slot][4], slot]] = found[slot][2][number]
    read = {kind: "".join(bit_on[wire[one[3][0], slot]] for slot, one in enumerate(found) if kinds[slot] == kind)
            for kind in ("out", "reg")}
    return read["out"], read["reg"]


def some_image(seed, kinds=("", "in", "gate", "reg", "out"), slots=None):
    """An image without BadTile and Short, most of them without Loose, and its tracks; the same for the same seed."""
    chance = random.Random(seed)
    tracks = chance.randrange(1, 7)
    slots = slots or chance.randrange(1, 15)
    density = chance.choice((0.2, 0.5, 0.8, 1.0))
    joins = [["1" if chance.random() < density else "0" for _ in range(tracks)] for _ in range(slots)]
    joins[-1] = ["0"] * tracks
    blank = [tile(joins="".join(row)) for row in joins]
    wire = wire_of(blank, tracks)
    placed = [chance.choice(kinds) for _ in range(slots)]
    told = [0] * slots
    taken = {}
    for slot in chance.sample(range(slots), slots):
        free = [track for track in range(1, tracks + 1) if wire[track, slot] not in taken]
        if placed[slot] in ("in", "gate", "reg") and free and chance.random() < 0.9:
            told[slot] = chance.choice(free)
            taken[wire[told[slot], slot]] = slot
    image = []
    for slot, kind in enumerate(placed):
        there = [track for track in range(1, tracks + 1) if wire[track, slot] in taken]
        if kind in ("out", "reg") and not there:
            kind = ""
        many = {"gate": chance.randrange(4) if there else 0, "reg": 1, "out": 1}.get(kind, 0)
        bits = "".join(chance.choice("01") for _ in range({"gate": 2 ** many, "reg": 1}.get(kind, 0)))
        pins = [chance.choice(there) for _ in range(many)]
        image.append(tile(kind, bits, pins, told[slot] if kind in ("in", "gate", "reg") else 0, "".join(joins[slot])))
    return image, tracks


def good_images(many):
    """So many triples (image, tracks, netlist by letters) of good images, most of them not empty."""
    told = 0
    seed = 0
    while told < many:
        image, tracks = some_image(seed)
        seed += 1
        word, *rest = read_by_definition(image, tracks, LETTERS)
        if word == "netlist" and (rest[0] or seed % 10 == 0):
            told += 1
            yield image, tracks, rest[0]


def layings(many, seed):
    """Tuples (netlist, placing, routing, tracks, chance) of layings on one to six tracks."""
    for netlist, placing, chance in samples.some_layings(many, seed):
        least = max([1, *loads(netlist, placing)])
        if least <= 6:
            tracks = chance.choice((least, chance.randrange(least, 7)))
            routing = routed(netlist, placing, tracks)[1]
            turned = chance.sample(range(1, tracks + 1), tracks)
            yield netlist, placing, [(*row[:3], turned[row[3] - 1]) for row in routing], tracks, chance
