"""Stands of a bench, and what deeds make of them."""

from tracklay.errors import BadBits, BadName, NoPin, NoSlot, NoThing, NotLaid, NotPegged, Pegged, Read, Ring, Taken
from tracklay.errors import TooBig
from tracklay.laying import laying_of
from tracklay.nets import by_kinds, fits, is_name, ring_in, too_big


class Stand:
    """How a bench stands between two deeds. It is never changed: a deed makes another one, so one can go back."""

    def __init__(self, slots, tracks, things, pegging, laying):
        self.slots = slots
        self.tracks = tracks
        self.things = things
        self.pegging = pegging
        self.laying = laying

    def edited(self, things):
        """The stand with another netlist; pegs go with their things."""
        names = [thing[1] for thing in things]
        pegging = tuple([peg for peg in self.pegging if peg[0] in names])
        return Stand(self.slots, self.tracks, things, pegging, self.laying)

    def repegged(self, pegging):
        """The stand with other pegs."""
        return Stand(self.slots, self.tracks, self.things, pegging, self.laying)

    def relaid(self, laying):
        """The stand with another laying."""
        return Stand(self.slots, self.tracks, self.things, self.pegging, laying)

    def pegs_by_places(self):
        """The pegs as pairs (place, slot)."""
        place_of = {thing[1]: place for place, thing in enumerate(self.things)}
        return tuple([(place_of[name], slot) for name, slot in self.pegging])


def done(stand, deed):
    """The pair (stand behind a deed, what the deed tells)."""
    action = ACTIONS[deed[0]]
    rest = deed[1:]
    return action(stand, *rest)


def put_entry(stand, name):
    """An input comes."""
    look_at_name(stand, name)
    return with_thing(stand, ("in", name, "", ()))


def put_gate(stand, name, bits, pins):
    """A gate comes."""
    look_at_name(stand, name)
    look_at_fit("gate", bits, pins)
    look_at_sources(stand, pins)
    return with_thing(stand, ("gate", name, bits, tuple(pins)))


def put_keeper(stand, name, bits, pin):
    """A register comes, which may read itself."""
    look_at_name(stand, name)
    look_at_fit("reg", bits, (pin,))
    if pin != name:
        look_at_sources(stand, (pin,))
    return with_thing(stand, ("reg", name, bits, (pin,)))


def put_output(stand, name, pin):
    """An output comes."""
    look_at_name(stand, name)
    look_at_sources(stand, (pin,))
    return with_thing(stand, ("out", name, "", (pin,)))


def set_bits(stand, name, bits):
    """A gate or register has other bits."""
    kind, name, elder, pins = thing_named(stand, name)
    if kind not in ("gate", "reg"):
        raise NoThing(name)
    look_at_fit(kind, bits, pins)
    return stand.edited(replaced(stand.things, (kind, name, bits, pins))), None


def set_wire(stand, name, at, source):
    """A pin reads another thing."""
    kind, name, bits, pins = thing_named(stand, name)
    if not 0 <= at < len(pins):
        raise NoPin(f"no pin {at} of {name}")
    look_at_sources(stand, (source,))
    things = replaced(stand.things, (kind, name, bits, pins[:at] + (source,) + pins[at + 1:]))
    ring = ring_in(things)
    if ring:
        raise Ring(ring)
    return stand.edited(things), None


def drop_thing(stand, name):
    """A thing goes, its peg too."""
    look_for(stand, name)
    for thing in stand.things:
        if name in thing[3] and thing[1] != name:
            raise Read(thing[1])
    return stand.edited(tuple([thing for thing in stand.things if thing[1] != name])), None


def put_peg(stand, name, slot):
    """A thing is pegged in a slot."""
    look_for(stand, name)
    if not 0 <= slot < stand.slots:
        raise NoSlot(f"no slot {slot}")
    for pegged_name, pegged_slot in stand.pegging:
        if pegged_name == name or pegged_slot == slot:
            raise Pegged(f"{pegged_name} is pegged in slot {pegged_slot}")
    by_slots = sorted([(pegged_slot, pegged_name) for pegged_name, pegged_slot in stand.pegging] + [(slot, name)])
    return stand.repegged(tuple([(pegged_name, pegged_slot) for pegged_slot, pegged_name in by_slots])), None


def take_peg(stand, name):
    """A thing has no peg any more."""
    look_for(stand, name)
    pegging = tuple([peg for peg in stand.pegging if peg[0] != name])
    if pegging == stand.pegging:
        raise NotPegged(f"{name} has no peg")
    return stand.repegged(pegging), None


def lay_things(stand):
    """The netlist is laid as it is."""
    return stand.relaid(laying_of(stand.things, stand.slots, stand.tracks, stand.pegs_by_places(), stand.laying)), None


def run_cycle(stand, row):
    """The laid image runs a cycle; told is the row of outputs."""
    if stand.laying is None:
        raise NotLaid("nothing is laid")
    told, behind = stand.laying.behind_cycle(row)
    return stand.relaid(behind), told


ACTIONS = {
    "input": put_entry,
    "gate": put_gate,
    "register": put_keeper,
    "output": put_output,
    "bits": set_bits,
    "wire": set_wire,
    "drop": drop_thing,
    "peg": put_peg,
    "free": take_peg,
    "lay": lay_things,
    "cycle": run_cycle,
}


def look_at_name(stand, name):
    """Refuse a name that no new thing may have."""
    if not is_name(name):
        raise BadName("a name that is no text of 1 to 8 small letters")
    if name in [thing[1] for thing in stand.things]:
        raise Taken(f"the name is taken: {name}")


def thing_named(stand, name):
    """The thing of a name."""
    look_for(stand, name)
    return [thing for thing in stand.things if thing[1] == name][0]


def look_for(stand, name):
    """Refuse a name that no thing has."""
    if name not in [thing[1] for thing in stand.things]:
        raise NoThing(name)


def look_at_fit(kind, bits, pins):
    """Refuse bits that don't fit a thing of a kind with such pins."""
    if not fits(kind, bits, pins):
        raise BadBits("bits or pins that don't fit")


def look_at_sources(stand, pins):
    """Refuse the first pin that is no input, gate or register."""
    readable = [thing[1] for thing in stand.things if thing[0] != "out"]
    for pin in pins:
        if pin not in readable:
            raise NoThing(pin)


def with_thing(stand, thing):
    """The stand with a thing more, the last one of its kind, and nothing told."""
    things = by_kinds([*stand.things, thing])
    if too_big([other[0] for other in things]):
        raise TooBig("too many things")
    return stand.edited(things), None


def replaced(things, thing):
    """The netlist in which a thing stands instead of the one of its name."""
    return tuple([thing if other[1] == thing[1] else other for other in things])
