"""Layings: netlists laid on a bench, whose images run."""

from tracklay.errors import NoRoom
from tracklay.fabric import Fabric, look_at_bits
from tracklay.image import image_of, patch
from tracklay.meaning import begun, names_of
from tracklay.places import placed
from tracklay.tiles import nothing_tile
from tracklay.tracks import routed


class Laying:
    """A laid netlist and the fabric on which its image runs. Once made it is never changed, as stands share it."""

    def __init__(self, things, placing, routing, changes, fabric):
        self.things = things
        self.placing = placing
        self.routing = routing
        self.changes = changes
        self.fabric = fabric

    def held_bits(self):
        """The bits that the registers hold, in the netlist's order."""
        return self.by_netlist("reg", self.fabric.held())

    def behind_cycle(self, row):
        """The pair (told row, laying behind the cycle), rows being in the netlist's order."""
        look_at_bits(row, len(names_of(self.things, "in")))
        fabric = self.fabric.twin()
        told = fabric.cycle(self.by_slots("in", row))
        behind = Laying(self.things, self.placing, self.routing, self.changes, fabric)
        return self.by_netlist("out", told), behind

    def by_slots(self, kind, bits):
        """Bits of the things of a kind, from the netlist's order to that of slots."""
        return turned(bits, names_of(self.things, kind), names_by_slots(self.things, self.placing, kind))

    def by_netlist(self, kind, bits):
        """Bits of the things of a kind, from the order of slots to the netlist's."""
        return turned(bits, names_by_slots(self.things, self.placing, kind), names_of(self.things, kind))


def names_by_slots(things, placing, kind):
    """The names of the things of a kind, as they lie."""
    return [things[place][1] for place in placing if place != -1 and things[place][0] == kind]


def turned(bits, names, others):
    """Bits that stand by some names, as they stand by the same names in another order."""
    bit_of = dict(zip(names, bits))
    return "".join([bit_of[name] for name in others])


def laying_of(things, slots, tracks, pegs, ahead):
    """A laying that keeps the pegs, behind another one or None."""
    word, found = placed(things, slots, tracks, pegs)
    if word == "barred":
        raise NoRoom(found)
    routing = routed(things, found, tracks)[1]
    tiles = image_of(things, found, routing, tracks)
    laying = Laying(things, found, routing, patch(tiles_ahead(slots, tracks, ahead), tiles), Fabric(tiles, tracks))
    laying.fabric.hold(laying.by_slots("reg", held_behind(things, ahead)))
    return laying


def tiles_ahead(slots, tracks, ahead):
    """The tiles that stood ahead of a lay, those of nothing at first."""
    if ahead is None:
        return [nothing_tile("0" * tracks)] * slots
    return ahead.fabric.image()


def held_behind(things, ahead):
    """The bits that registers hold behind a lay: what those of their names held ahead, else their own."""
    if ahead is None:
        return begun(things)
    held_by = dict(zip(names_of(ahead.things, "reg"), ahead.held_bits()))
    return "".join([held_by.get(thing[1], thing[2]) for thing in things if thing[0] == "reg"])
