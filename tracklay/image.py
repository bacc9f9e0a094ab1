"""Images of layings: written, read back with their faults, and patched."""

from tracklay.errors import BadTile, Loose, Ring, Short, TooBig
from tracklay.nets import by_kinds, ring_in, too_big
from tracklay.tiles import bits_of, goes_on, is_tile, kind_of, nothing_tile, pins_of, telling_of, thing_tile


def image_of(netlist, placing, routing, tracks):
    """The list of tiles of a laying."""
    track_of = {name: track for name, left, right, track in routing}
    tiles = []
    for slot, place in enumerate(placing):
        joins = joins_at(slot, routing, tracks)
        if place == -1:
            tiles.append(nothing_tile(joins))
        else:
            tiles.append(thing_tile(netlist[place], track_of, joins))
    return tiles


def joins_at(slot, routing, tracks):
    """A bit for each track: whether a stretch goes on from a slot into the next one."""
    joined = [track for name, left, right, track in routing if left <= slot < right]
    return "".join(["1" if track in joined else "0" for track in range(1, tracks + 1)])


def sheet_of(netlist, placing):
    """The names of the things in the slots, an empty text where nothing lies."""
    return tuple(["" if place == -1 else netlist[place][1] for place in placing])


def wires(image, tracks):
    """The list of triples (track, left, right) of the wires, by tracks, then by slots."""
    told = []
    for track in range(1, tracks + 1):
        left = 0
        for slot, tile in enumerate(image):
            if not goes_on(tile, track):
                told.append((track, left, slot))
                left = slot + 1
    return told


def read(image, tracks, sheet):
    """The netlist of an image, its things named by the sheet; or the image's first fault."""
    look_at_tiles(image, tracks)
    wire_at = wires_by_slots(image, tracks)
    teller_of = tellers(image, wire_at)
    look_at_pins(image, wire_at, teller_of)
    things = []
    for slot, tile in enumerate(image):
        if kind_of(tile):
            sources = [teller_of[wire_at[track, slot]] for track in pins_of(tile)]
            things.append((kind_of(tile), sheet[slot], bits_of(tile), tuple([sheet[source] for source in sources])))
    netlist = by_kinds(things)
    if too_big([thing[0] for thing in netlist]):
        raise TooBig("too many things")
    ring = ring_in(netlist)
    if ring:
        raise Ring(ring)
    return netlist


def look_at_tiles(image, tracks):
    """Refuse the first text that is no tile."""
    for slot, tile in enumerate(image):
        if not is_tile(tile, tracks, slot == len(image) - 1):
            raise BadTile(slot)


def wires_by_slots(image, tracks):
    """The wires by pairs (track, slot)."""
    wire_at = {}
    for wire in wires(image, tracks):
        track, left, right = wire
        for slot in range(left, right + 1):
            wire_at[track, slot] = wire
    return wire_at


def tellers(image, wire_at):
    """The slots that tell, by the wires to which they tell; the first slot that tells to another's is refused."""
    teller_of = {}
    for slot, tile in enumerate(image):
        track = telling_of(tile)
        if track:
            wire = wire_at[track, slot]
            if wire in teller_of:
                raise Short(slot)
            teller_of[wire] = slot
    return teller_of


def look_at_pins(image, wire_at, teller_of):
    """Refuse the first slot with a pin to which nothing is told."""
    for slot, tile in enumerate(image):
        for track in pins_of(tile):
            if track == 0 or wire_at[track, slot] not in teller_of:
                raise Loose(slot)


def in_order(netlist, names):
    """The netlist whose things stand by a tuple of their names."""
    thing_of = {thing[1]: thing for thing in netlist}
    return tuple([thing_of[name] for name in names])


def patch(old, new):
    """The list of pairs (slot, tile) of the new tiles that differ."""
    return [(slot, tile) for slot, tile in enumerate(new) if tile != old[slot]]


def patched(image, some):
    """A new image on which pairs (slot, tile) are laid, one behind the other."""
    tiles = list(image)
    for slot, tile in some:
        tiles[slot] = tile
    return tiles
