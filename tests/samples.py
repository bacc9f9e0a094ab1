"""Netlists on which several tests look."""

import itertools
import random

NAMES = ("a", "z", "abcdefgh", "zyxwvuts", "b", "c", "d", "e", "f", "g", "h", "i", "j", "k", "l", "m")

EMPTY = ()

# A gate told ahead of those that it reads, a gate without pins, a register that reads itself.
MIXED = (
    ("in", "a", "", ()),
    ("in", "b", "", ()),
    ("gate", "both", "0001", ("a", "other")),
    ("reg", "keep", "1", ("keep",)),
    ("gate", "other", "01101001", ("b", "last", "one")),
    ("gate", "one", "1", ()),
    ("reg", "last", "0", ("both",)),
    ("out", "x", "", ("both",)),
    ("out", "y", "", ("keep",)),
    ("out", "w", "", ("a",)),
)

MIXED_TEXT = "\n".join([
    "in a",
    "in b",
    "gate both 0001 a other",
    "reg keep 1 keep",
    "gate other 01101001 b last one",
    "gate one 1",
    "reg last 0 both",
    "out x both",
    "out y keep",
    "out w a",
])

# Counts in two bits, the low one first; told are both and whether it goes on.
COUNTER = (
    ("in", "go", "", ()),
    ("reg", "low", "0", ("lownext",)),
    ("reg", "high", "0", ("highnext",)),
    ("gate", "highnext", "0110", ("high", "carry")),
    ("gate", "carry", "0001", ("low", "go")),
    ("gate", "lownext", "0110", ("low", "go")),
    ("out", "one", "", ("high",)),
    ("out", "two", "", ("low",)),
    ("out", "on", "", ("go",)),
)


def sized(inputs, gates, registers, outputs):
    """A netlist of so many things; what reads something reads the first thing."""
    names = iter(NAMES)
    first = NAMES[0]
    things = [("in", next(names), "", ()) for _ in range(inputs)]
    things += [("gate", next(names), "1", ()) for _ in range(gates)]
    things += [("reg", next(names), "0", (first,)) for _ in range(registers)]
    things += [("out", next(names), "", (first,)) for _ in range(outputs)]
    return tuple(things)


def gate_of(name, pins):
    """A gate with these pins that is 1 just where all of them are."""
    return ("gate", name, "0" * (2 ** len(pins) - 1) + "1", tuple(pins))


def three_gates():
    """All netlists of three gates that read one another in any way."""
    subsets = [pins for many in range(4) for pins in itertools.combinations("pqr", many)]
    for by_gate in itertools.product(subsets, repeat=3):
        yield tuple(gate_of(name, pins) for name, pins in zip("pqr", by_gate))


def has_ring(netlist):
    """Whether some gate is come to from itself along pins of gates."""
    gates = {name: pins for kind, name, bits, pins in netlist if kind == "gate"}
    for start in gates:
        reached, fresh = set(), {start}
        while fresh:
            fresh = {pin for name in fresh for pin in gates[name] if pin in gates} - reached
            reached |= fresh
        if start in reached:
            return True
    return False


def some_netlist(seed):
    """A good netlist, the same one for the same seed."""
    chance = random.Random(seed)
    while True:
        kinds = ["in"] * chance.randrange(5)
        kinds += chance.sample(["gate"] * 4 + ["reg"] * 4, chance.randrange(5))
        kinds += ["out"] * chance.randrange(5)
        names = chance.sample(NAMES, len(kinds))
        readable = [name for kind, name in zip(kinds, names) if kind != "out"]
        if not readable:
            continue
        netlist = tuple(some_thing(chance, kind, name, readable) for kind, name in zip(kinds, names))
        if not has_ring(netlist):
            return netlist


def some_thing(chance, kind, name, readable, pins=None):
    """A thing of a kind with pins among the readable names, a gate with so many where told and there are some."""
    if pins is None:
        pins = chance.randrange(4)
    many = {"in": 0, "gate": pins if readable else 0, "reg": 1, "out": 1}[kind]
    length = {"in": 0, "gate": 2 ** many, "reg": 1, "out": 0}[kind]
    bits = "".join(chance.choice("01") for _ in range(length))
    return (kind, name, bits, tuple(chance.choice(readable) for _ in range(many)))


def words_of_bits(length):
    """All texts of so many bits."""
    return ["".join(bits) for bits in itertools.product("01", repeat=length)]


def count(netlist, kind):
    return len([thing for thing in netlist if thing[0] == kind])


def cycle_by_definition(netlist, held, row):
    things = {thing[1]: thing for thing in netlist}
    inputs = [thing[1] for thing in netlist if thing[0] == "in"]
    registers = [thing[1] for thing in netlist if thing[0] == "reg"]

    def bit(name):
        kind, name, bits, pins = things[name]
        if kind == "in":
            return row[inputs.index(name)]
        if kind == "reg":
            return held[registers.index(name)]
        return bits[int("0" + "".join(bit(pin) for pin in pins), 2)]

    told = "".join(bit(pins[0]) for kind, name, bits, pins in netlist if kind == "out")
    return told, "".join(bit(pins[0]) for kind, name, bits, pins in netlist if kind == "reg")


def big_netlist(seed, inputs, gates, registers, outputs):
    """A good netlist of so many things, the same one for the same seed; gates are read ahead and behind."""
    chance = random.Random(seed)
    inner = chance.sample(["gate"] * gates + ["reg"] * registers, gates + registers)
    kinds = ["in"] * inputs + inner + ["out"] * outputs
    names = chance.sample(NAMES, len(kinds))
    readable = [name for kind, name in zip(kinds, names) if kind != "out"]
    told = {name for kind, name in zip(kinds, names) if kind in ("in", "reg")}
    things = {}
    places = [place for place, kind in enumerate(kinds) if kind == "gate"]
    for place in chance.sample(places, gates):
        things[place] = some_thing(chance, "gate", names[place], sorted(told), pins=chance.choice((0, 1, 2, 3, 3)))
        told.add(names[place])
    for place, kind in enumerate(kinds):
        if kind != "gate":
            things[place] = some_thing(chance, kind, names[place], readable)
    return tuple(things[place] for place in range(len(kinds)))


def begun_by_definition(netlist):
    return "".join(bits for kind, name, bits, pins in netlist if kind == "reg")


def rows_to_part(one, other):
    """How many rows part two netlists at least, None where they go alike; and all pairs of held bits come to."""
    rows = words_of_bits(count(one, "in"))
    fresh = {(begun_by_definition(one), begun_by_definition(other))}
    seen = set()
    many = 0
    while fresh:
        many += 1
        seen |= fresh
        answers = [(cycle_by_definition(one, pair[0], row), cycle_by_definition(other, pair[1], row))
                   for pair in sorted(fresh) for row in rows]
        if any(mine[0] != others[0] for mine, others in answers):
            return many, seen
        fresh = {(mine[1], others[1]) for mine, others in answers} - seen
    return None, seen


def told_anew(netlist, seed):
    """The same netlist with other names, its gates and registers told in another order."""
    chance = random.Random(seed)
    fresh = ["".join(letters) for letters in itertools.product("qrst", repeat=3)]
    names = {thing[1]: name for thing, name in zip(netlist, chance.sample(fresh, len(netlist)))}
    things = [(kind, names[name], bits, tuple(names[pin] for pin in pins)) for kind, name, bits, pins in netlist]
    inner = [thing for thing in things if thing[0] in ("gate", "reg")]
    chance.shuffle(inner)
    return tuple([thing for thing in things if thing[0] == "in"] + inner
                 + [thing for thing in things if thing[0] == "out"])


def some_placing(chance, netlist, slots):
    """The things in some of so many slots."""
    return tuple(chance.sample([*range(len(netlist))] + [-1] * (slots - len(netlist)), slots))


def some_layings(many, seed=0):
    """Triples (netlist, placing, chance), small and full ones, with and without empty slots."""
    chance = random.Random(seed)
    shapes = ((4, 4, 4, 0), (4, 4, 0, 4), (2, 6, 2, 2), (4, 0, 4, 4), (0, 8, 0, 4), (1, 4, 4, 3), (3, 5, 1, 2))
    for at in range(many):
        if at % 3:
            netlist = some_netlist(1000 * seed + at)
        else:
            netlist = big_netlist(1000 * seed + at, *chance.choice(shapes))
        slots = max(1, len(netlist)) + chance.choice((0, 0, 1, 2))
        yield netlist, some_placing(chance, netlist, slots), chance
