"""Netlists: which are good, their nets, an order of their gates, and their text."""

from tracklay.errors import BadBits, BadName, NoNet, NoThing, Ring, Taken, TooBig

LETTERS = "abcdefghijklmnopqrstuvwxyz"
LONGEST_NAME = 8
LONGEST_BITS = 8

# Kinds of the same rank stand mixed.
RANKS = {"in": 0, "gate": 1, "reg": 1, "out": 2}
PIN_COUNTS = {"in": (0,), "gate": (0, 1, 2, 3), "reg": (1,), "out": (1,)}
GATE_BITS = (1, 2, 4, 8)

MOST_INPUTS = 4
MOST_INNER = 8
MOST_REGISTERS = 4
MOST_OUTPUTS = 4
MOST_THINGS = 12


def is_name(name):
    """Whether it is a text of 1 to 8 small letters."""
    return isinstance(name, str) and 1 <= len(name) <= LONGEST_NAME and all([sign in LETTERS for sign in name])


def is_bits(text):
    """Whether a text has no sign but 0 and 1."""
    return all([sign in "01" for sign in text])


def bits_needed(kind, pin_count):
    """How many bits a thing of a kind has with so many pins."""
    if kind == "gate":
        return GATE_BITS[pin_count]
    if kind == "reg":
        return 1
    return 0


def fits(kind, bits, pins):
    """Whether a thing of a kind may have these bits with so many pins."""
    if len(pins) not in PIN_COUNTS[kind]:
        return False
    return len(bits) == bits_needed(kind, len(pins)) and is_bits(bits)


def too_big(kinds):
    """Whether a list of things' kinds has more of one, or together, than a netlist may have."""
    registers = kinds.count("reg")
    if kinds.count("in") > MOST_INPUTS or kinds.count("out") > MOST_OUTPUTS:
        return True
    if registers > MOST_REGISTERS or registers + kinds.count("gate") > MOST_INNER:
        return True
    return len(kinds) > MOST_THINGS


def by_kinds(things):
    """The tuple of things, ordered by their kinds; those of a rank stay in their order."""
    return tuple([thing for rank in range(3) for thing in things if RANKS[thing[0]] == rank])


def look(netlist):
    """Refuse a netlist that isn't good."""
    look_at_things(netlist)
    if too_big([thing[0] for thing in netlist]):
        raise TooBig("too many things")
    look_at_pins(netlist)
    ring = ring_in(netlist)
    if ring:
        raise Ring(ring)


def look_at_things(netlist):
    """Refuse the first thing whose name, bits or number of pins won't do."""
    seen = {}
    for kind, name, bits, pins in netlist:
        if not is_name(name):
            raise BadName("a name that is no text of 1 to 8 small letters")
        if name in seen:
            raise Taken(f"the name is taken: {name}")
        if not fits(kind, bits, pins):
            raise BadBits(f"bits or pins that don't fit: {name}")
        seen[name] = True


def look_at_pins(netlist):
    """Refuse the first pin that reads nothing or an output."""
    readable = {thing[1]: True for thing in netlist if thing[0] != "out"}
    for thing in netlist:
        for pin in thing[3]:
            if pin not in readable:
                raise NoThing(pin)


def nets(netlist):
    """The list of pairs (name of the thing read, places of it and its readers)."""
    told = []
    for place, thing in enumerate(netlist):
        readers = places_reading(netlist, thing[1])
        if readers:
            told.append((thing[1], tuple(sorted(set([place] + readers)))))
    return told


def places_reading(netlist, name):
    """The places of the things with a pin of this name."""
    return [place for place, thing in enumerate(netlist) if name in thing[3]]


def order(netlist):
    """The places of all gates, each behind those that it reads."""
    told, waiting = settled(netlist)
    return tuple(told)


def settled(netlist):
    """The places of gates, each behind those that it reads, and the places by names of those that a ring keeps back."""
    waiting = {thing[1]: place for place, thing in enumerate(netlist) if thing[0] == "gate"}
    told = []
    ready = ready_names(netlist, waiting)
    while ready:
        for name in ready:
            told.append(waiting.pop(name))
        ready = ready_names(netlist, waiting)
    return told, waiting


def ready_names(netlist, waiting):
    """The names of the waiting gates that read no waiting one."""
    return [name for name in waiting if not waiting_pins(netlist, waiting, name)]


def waiting_pins(netlist, waiting, name):
    """The pins of a waiting gate that are waiting gates."""
    return [pin for pin in netlist[waiting[name]][3] if pin in waiting]


def ring_in(netlist):
    """The names of one ring, each gate read by the next one, or an empty tuple."""
    told, waiting = settled(netlist)
    if not waiting:
        return ()
    # Each gate kept back reads another one, so that the way from reader to read must come round.
    way = []
    name = list(waiting)[0]
    while name not in way:
        way.append(name)
        name = waiting_pins(netlist, waiting, name)[0]
    return tuple(reversed(way[way.index(name):]))


def net_text(netlist):
    """The netlist's text, a row for each thing."""
    return "\n".join([thing_text(thing) for thing in netlist])


def thing_text(thing):
    """The row of a thing; an input's and an output's has no bits."""
    kind, name, bits, pins = thing
    words = [kind, name]
    if bits:
        words.append(bits)
    return " ".join(words + list(pins))


def net_of(text):
    """The tuple of things that a text writes; it needn't be a good netlist."""
    if text == "":
        return ()
    things = []
    rank = 0
    for number, row in enumerate(text.split("\n")):
        thing = thing_of(row)
        if thing is None or RANKS[thing[0]] < rank:
            raise NoNet(number)
        rank = RANKS[thing[0]]
        things.append(thing)
    return tuple(things)


def thing_of(row):
    """The thing that a row writes, or None."""
    words = row.split(" ")
    kind = words[0]
    bits = ""
    names = words[1:]
    if kind in ("gate", "reg"):
        bits = "".join(words[2:3])
        names = words[1:2] + words[3:]
        if not 1 <= len(bits) <= LONGEST_BITS or not is_bits(bits):
            return None
    if kind not in PIN_COUNTS or len(names) - 1 not in PIN_COUNTS[kind]:
        return None
    if not all([is_name(name) for name in names]):
        return None
    return (kind, names[0], bits, tuple(names[1:]))
