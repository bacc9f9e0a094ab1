"""Tiles, the texts of bits in which slots are written: what stands in one, and which texts are tiles."""

from tracklay.meaning import number_of
from tracklay.nets import PIN_COUNTS, bits_needed, is_bits

# Where the parts of a tile begin behind its kind: number of pins, bits, pins' tracks, telling's track, joined tracks.
COUNT_AT = 2
BITS_AT = 4
PINS_AT = 12
TELLING_AT = 21
JOINS_AT = 24

TRACK_BITS = 3

NOTHING = "00"
PAD = "11"
CODES = {"gate": "01", "reg": "10", "in": "11", "out": "11"}


def nothing_tile(joins):
    """The tile of a slot in which nothing lies."""
    return "0" * JOINS_AT + joins


def thing_tile(thing, track_of, joins):
    """The tile of a thing; the tracks of nets are told by the names of the things read."""
    kind, name, bits, pins = thing
    return "".join([
        CODES[kind],
        f"{len(pins):02b}",
        bits.ljust(PINS_AT - BITS_AT, "0"),
        "".join([track_text(track_of[pin]) for pin in pins]).ljust(TELLING_AT - PINS_AT, "0"),
        track_text(track_of.get(name, 0)),
        joins,
    ])


def track_text(track):
    """The bits that write a track, or 0 for none."""
    return f"{track:03b}"


def kind_of(tile):
    """The kind of the thing in a tile, or an empty text where nothing lies."""
    code = tile[:COUNT_AT]
    if code == NOTHING:
        return ""
    if code == PAD:
        return "out" if pin_count(tile) else "in"
    return "gate" if code == CODES["gate"] else "reg"


def pin_count(tile):
    """How many pins a tile writes."""
    return number_of(tile[COUNT_AT:BITS_AT])


def bits_of(tile):
    """The bits of the thing in a tile."""
    return tile[BITS_AT:BITS_AT + bits_needed(kind_of(tile), pin_count(tile))]


def pins_of(tile):
    """The tracks of the pins of the thing in a tile, 0 for a pin that has none."""
    return tracks_at_pins(tile)[:pin_count(tile)]


def tracks_at_pins(tile):
    """The tracks written at all places for pins, whether or not the thing has so many."""
    return [number_of(tile[start:start + TRACK_BITS]) for start in range(PINS_AT, TELLING_AT, TRACK_BITS)]


def telling_of(tile):
    """The track to which the thing in a tile is told, or 0."""
    return number_of(tile[TELLING_AT:JOINS_AT])


def goes_on(tile, track):
    """Whether a track goes on into the next slot."""
    return tile[JOINS_AT + track - 1] == "1"


def is_tile(tile, tracks, is_last):
    """Whether a text is a tile of a bench with so many tracks, in the last slot or ahead of it."""
    if len(tile) != JOINS_AT + tracks or not is_bits(tile):
        return False
    if max(tracks_at_pins(tile) + [telling_of(tile)]) > tracks:
        return False
    if is_last and "1" in tile[JOINS_AT:]:
        return False
    return fits_kind(tile)


def fits_kind(tile):
    """Whether a tile has no bits, pins and telling but those that a thing of its kind and number of pins has."""
    kind = kind_of(tile)
    many = pin_count(tile)
    if many not in PIN_COUNTS.get(kind, (0,)):
        return False
    if "1" in tile[BITS_AT + bits_needed(kind, many):PINS_AT] or any(tracks_at_pins(tile)[many:]):
        return False
    return kind not in ("", "out") or telling_of(tile) == 0
