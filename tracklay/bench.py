"""A bench under edit: its deeds, what they made of it, and the way back."""

from tracklay.deeds import Stand, done
from tracklay.errors import BadSize, NotLaid, NothingLeft
from tracklay.image import sheet_of
from tracklay.places import least_tracks
from tracklay.rows import page_rows
from tracklay.tracks import delay as delay_of

MOST_SLOTS = 14
MOST_TRACKS = 6


class Bench:
    """A row of slots and tracks, a netlist under edit, pegs, a laying or none, and the deeds that made them.

    It has the stand behind each deed, those taken back too, and how many deeds are kept."""

    def __init__(self, slots, tracks=3):
        if not 1 <= slots <= MOST_SLOTS or not 1 <= tracks <= MOST_TRACKS:
            raise BadSize(f"no bench has {slots} slots and {tracks} tracks")
        self.slots = slots
        self.tracks = tracks
        self.rows = []
        self.stands = [Stand(slots, tracks, (), (), None)]
        self.many = 0

    def entry(self, name):
        """An input comes."""
        self.deed(("input", name))

    def gate(self, name, bits, pins):
        """A gate comes."""
        self.deed(("gate", name, bits, tuple(pins)))

    def keeper(self, name, bits, pin):
        """A register comes."""
        self.deed(("register", name, bits, pin))

    def output(self, name, pin):
        """An output comes."""
        self.deed(("output", name, pin))

    def bits(self, name, bits):
        """A gate or register has other bits."""
        self.deed(("bits", name, bits))

    def wire(self, name, at, source):
        """A pin reads another thing."""
        self.deed(("wire", name, at, source))

    def drop(self, name):
        """A thing goes, its peg too."""
        self.deed(("drop", name))

    def peg(self, name, slot):
        """A thing is pegged in a slot."""
        self.deed(("peg", name, slot))

    def unpeg(self, name):
        """A thing has no peg any more."""
        self.deed(("free", name))

    def lay(self):
        """The netlist is laid as it is."""
        self.deed(("lay",))

    def cycle(self, row=""):
        """The laid image runs a cycle; the row of outputs."""
        return self.deed(("cycle", row))

    def deed(self, row):
        """Do a deed; what it tells."""
        stand, told = done(self.stand(), row)
        del self.rows[self.many:]
        del self.stands[self.many + 1:]
        self.rows.append(row)
        self.stands.append(stand)
        self.many += 1
        return told

    def back(self):
        """Take the last deed back."""
        if self.many == 0:
            raise NothingLeft("no deed to take back")
        self.many -= 1

    def again(self):
        """Do again what was taken back last."""
        if self.many == len(self.rows):
            raise NothingLeft("no deed to do again")
        self.many += 1

    def deeds(self):
        """The deeds that it keeps."""
        return self.rows[:self.many]

    def twin(self):
        """Another bench that is alike, and goes its own way."""
        other = Bench(self.slots, self.tracks)
        other.rows = list(self.rows)
        other.stands = list(self.stands)
        other.many = self.many
        return other

    def netlist(self):
        """The netlist under edit."""
        return self.stand().things

    def pegs(self):
        """The pairs (name, slot) of the pegs, by slots."""
        return self.stand().pegging

    def laid(self):
        """The triple (netlist, placing, routing) of the laying, or None."""
        laying = self.stand().laying
        if laying is None:
            return None
        return (laying.things, laying.placing, list(laying.routing))

    def image(self):
        """The tiles of the laying."""
        return self.laying_there().fabric.image()

    def sheet(self):
        """The names of the laid things, by slots."""
        laying = self.laying_there()
        return sheet_of(laying.things, laying.placing)

    def held(self):
        """The bits that the laid registers hold, in the laid netlist's order."""
        return self.laying_there().held_bits()

    def delay(self):
        """The pair (number, way) of the laying."""
        laying = self.laying_there()
        return delay_of(laying.things, laying.placing)

    def change(self):
        """The patch by which the last lay changed the image ahead."""
        return list(self.laying_there().changes)

    def least(self):
        """The least number of tracks on which the netlist can be laid, or None."""
        return least_tracks(self.stand().things, self.slots, self.stand().pegs_by_places())

    def stale(self):
        """Whether the netlist isn't the laid one."""
        laying = self.stand().laying
        return laying is None or laying.things != self.stand().things

    def stand(self):
        """How it stands now."""
        return self.stands[self.many]

    def laying_there(self):
        """The laying, refused where there is none."""
        laying = self.stand().laying
        if laying is None:
            raise NotLaid("nothing is laid")
        return laying

    def __len__(self):
        return len(self.stands[self.many].things)

    def __str__(self):
        return "\n".join(page_rows(self.slots, self.tracks, self.rows[:self.many]))

    def __repr__(self):
        return f"Bench({self.slots} slots, {self.tracks} tracks, {len(self.stands[self.many].things)} things)"

    def __eq__(self, other):
        return isinstance(other, Bench) and (self.slots, self.tracks, self.deeds()) == (
            other.slots, other.tracks, other.deeds())
