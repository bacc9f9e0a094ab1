"""The refusals of the program."""


class LayError(ValueError):
    """What is handed in doesn't do."""


class BadName(LayError):
    """A name that is no text of 1 to 8 small letters."""


class Taken(LayError):
    """A name that a thing has already."""


class TooBig(LayError):
    """More things of a kind, or together, than a netlist may have."""


class BadBits(LayError):
    """Bits or pins that a thing of the kind doesn't have."""


class BadRow(LayError):
    """Not a bit for each input, or for each register."""


class Ring(LayError):
    """Gates of which each is read by the next one and the last by the first."""

    def __init__(self, ring):
        super().__init__(f"a ring of gates: {ring}")
        self.ring = ring


class Read(LayError):
    """A thing that another one still reads."""

    def __init__(self, by):
        super().__init__(f"still read by {by}")
        self.by = by


class Pegged(LayError):
    """A thing or a slot that is pegged already."""


class NotPegged(LayError):
    """A thing without a peg."""


class NoRoom(LayError):
    """No placing: some family of stages bars."""

    def __init__(self, family):
        # The text alone goes up, as an error keeps what it is made with.
        super().__init__("there is no placing")
        self.family = list(family)


class NotLaid(LayError):
    """A bench without a laying."""


class NothingLeft(LayError):
    """No deed to take back or to do again."""


class Unlike(LayError):
    """Two netlists with not as many inputs or outputs."""


class BadTile(LayError):
    """A text that is no tile at its slot."""

    def __init__(self, slot):
        super().__init__(f"no tile in slot {slot}")
        self.slot = slot


class Short(LayError):
    """A slot that tells to a wire to which an earlier one tells."""

    def __init__(self, slot):
        super().__init__(f"slot {slot} tells to a wire that is told to already")
        self.slot = slot


class Loose(LayError):
    """A slot with a pin that hangs on nothing."""

    def __init__(self, slot):
        super().__init__(f"a pin of slot {slot} hangs on nothing")
        self.slot = slot


class NoNet(LayError):
    """A text that is no netlist's, with the number of its first wrong row."""

    def __init__(self, row):
        super().__init__(f"row {row} is no thing at its place")
        self.row = row


class NoPage(LayError):
    """A text that is no bench's page, with the number of its first wrong row."""

    def __init__(self, row):
        super().__init__(f"row {row} is wrong")
        self.row = row


class NoDeed(LayError):
    """A text that writes no deed."""


class BadSize(LayError):
    """Slots or tracks of a number that no bench has."""


class Known(LayError):
    """A name that a bench of the desk has already."""


class Absent(LookupError):
    """What is asked for isn't there."""


class NoThing(Absent):
    """No thing of the name that would do."""

    def __init__(self, name):
        super().__init__(f"no such thing: {name}")
        self.name = name


class NoPin(Absent):
    """A thing without a pin at that place."""


class NoSlot(Absent):
    """A slot that isn't there."""


class NoBench(Absent):
    """A name that no bench of the desk has."""
