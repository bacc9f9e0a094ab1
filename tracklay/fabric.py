"""Fabrics, on which images run."""

from tracklay.errors import BadRow, NoSlot
from tracklay.image import patched, read
from tracklay.meaning import begun, cycle as netlist_cycle, names_of
from tracklay.nets import LETTERS, is_bits


class Fabric:
    """An image that runs, with the bits that its registers hold; what it has stands by slots."""

    def __init__(self, image, tracks):
        self.tiles = list(image)
        self.tracks = tracks
        self.things = read_by_letters(image, tracks)
        self.holding = begun(self.things)

    def cycle(self, row):
        """Run a cycle; the told row."""
        look_at_bits(row, len(names_of(self.things, "in")))
        told, self.holding = netlist_cycle(self.things, self.holding, row)
        return told

    def held(self):
        """The bits that the registers hold."""
        return self.holding

    def hold(self, bits):
        """Let the registers hold other bits."""
        look_at_bits(bits, len(self.holding))
        self.holding = bits

    def lay(self, some):
        """Lay a patch; registers hold on in slots that had registers."""
        for slot, tile in some:
            if not 0 <= slot < len(self.tiles):
                raise NoSlot(f"no slot {slot}")
        tiles = patched(self.tiles, some)
        things = read_by_letters(tiles, self.tracks)
        # Things are named by their slots, so that a register in a slot that had one is found by its name.
        held_by = dict(zip(names_of(self.things, "reg"), self.holding))
        self.holding = "".join([held_by.get(thing[1], thing[2]) for thing in things if thing[0] == "reg"])
        self.tiles = tiles
        self.things = things

    def image(self):
        """A list of its tiles."""
        return list(self.tiles)

    def twin(self):
        """Another fabric that is equal, and goes its own way."""
        other = Fabric(self.tiles, self.tracks)
        other.hold(self.holding)
        return other

    def __len__(self):
        return len(self.tiles)

    def __str__(self):
        return "\n".join(self.tiles)

    def __repr__(self):
        return f"Fabric({len(self.tiles)} slots, {self.tracks} tracks)"

    def __eq__(self, other):
        return isinstance(other, Fabric) and (self.tiles, self.tracks, self.holding) == (
            other.tiles, other.tracks, other.holding)


def read_by_letters(image, tracks):
    """The netlist of an image, its things named by letters."""
    return read(image, tracks, tuple(LETTERS[:len(image)]))


def look_at_bits(text, many):
    """Refuse a text that isn't so many bits."""
    if len(text) != many or not is_bits(text):
        raise BadRow(f"not {many} bits")
