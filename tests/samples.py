"""Netlists on which several tests look."""

import itertools
import random

NAMES = ("a", "z", "abcdefgh", "zyxwvuts", "b", "c", "d", "e", "f", "g", "h", "i", "j", "k", "l", "m")

EMPTY = ()

# A gate told ahead of those that it reads, a gate without pins, a register that reads itself.
MIXED = (
    ("in", "a", "", ()),
    ("in", "b", "", ()),
    ("gate", "both", "0001", ("a", "other")),
    ("reg", "keep", "1", ("keep",)),
    ("gate", "other", "01101001", ("b", "last", "one")),
    ("gate", "one", "1", ()),
    ("reg", "last", "0", ("both",)),
    ("out", "x", "", ("both",)),
    ("out", "y", "", ("keep",)),
    ("out", "w", "", ("a",)),
)

MIXED_TEXT = "\n".join([
    "in a",
    "in b",
    "gate both 0001 a other",
    "reg keep 1 keep",
    "gate other 01101001 b last one",
    "gate one 1",
    "reg last 0 both",
    "out x both",
    "out y keep",
    "out w a",
])


def sized(inputs, gates, registers, outputs):
    """A netlist of so many things; what reads something reads the first thing."""
    names = iter(NAMES)
    first = NAMES[0]
    things = [("in", next(names), "", ()) for _ in range(inputs)]
    things += [("gate", next(names), "1", ()) for _ in range(gates)]
    things += [("reg", next(names), "0", (first,)) for _ in range(registers)]
    things += [("out", next(names), "", (first,)) for _ in range(outputs)]
    return tuple(things)


def gate_of(name, pins):
    """A gate with these pins that is 1 just where all of them are."""
    return ("gate", name, "0" * (2 ** len(pins) - 1) + "1", tuple(pins))


def three_gates():
    """All netlists of three gates that read one another in any way."""
    subsets = [pins for many in range(4) for pins in itertools.combinations("pqr", many)]
    for by_gate in itertools.product(subsets, repeat=3):
        yield tuple(gate_of(name, pins) for name, pins in zip("pqr", by_gate))


def has_ring(netlist):
    """Whether some gate is come to from itself along pins of gates."""
    gates = {name: pins for kind, name, bits, pins in netlist if kind == "gate"}
    for start in gates:
        reached, fresh = set(), {start}
        while fresh:
            fresh = {pin for name in fresh for pin in gates[name] if pin in gates} - reached
            reached |= fresh
        if start in reached:
            return True
    return False


def some_netlist(seed):
    """A good netlist, the same one for the same seed."""
    chance = random.Random(seed)
    while True:
        kinds = ["in"] * chance.randrange(5)
        kinds += chance.sample(["gate"] * 4 + ["reg"] * 4, chance.randrange(5))
        kinds += ["out"] * chance.randrange(5)
        names = chance.sample(NAMES, len(kinds))
        readable = [name for kind, name in zip(kinds, names) if kind != "out"]
        if not readable:
            continue
        netlist = tuple(some_thing(chance, kind, name, readable) for kind, name in zip(kinds, names))
        if not has_ring(netlist):
            return netlist


def some_thing(chance, kind, name, readable):
    """A thing of a kind with pins among the readable names."""
    many = {"in": 0, "gate": chance.randrange(4), "reg": 1, "out": 1}[kind]
    length = {"in": 0, "gate": 2 ** many, "reg": 1, "out": 0}[kind]
    bits = "".join(chance.choice("01") for _ in range(length))
    return (kind, name, bits, tuple(chance.choice(readable) for _ in range(many)))


def words_of_bits(length):
    """All texts of so many bits."""
    return ["".join(bits) for bits in itertools.product("01", repeat=length)]
