"""A bench by the document's words, for the tests: what each deed does to plain lists, and what it refuses."""

import copy
import random
import re

from tests import samples
from tracklay.bench import Bench
from tracklay.errors import NotLaid
from tracklay.pages import page
from tracklay.places import least_tracks

MOST = {"in": 4, "reg": 4, "out": 4}


def asked(bench, method):
    """What a method tells, copied lest it be the bench's own, or that it is refused."""
    try:
        return copy.deepcopy(getattr(bench, method)())
    except NotLaid:
        return "NotLaid"


def everything(bench, with_least=True):
    """All that can be asked of a bench."""
    told = {method: asked(bench, method) for method in (
        "netlist", "pegs", "laid", "image", "sheet", "held", "delay", "change", "stale", "deeds")}
    told["least"] = bench.least() if with_least else None
    return {**told, "page": page(bench), "len": len(bench), "str": str(bench), "repr": repr(bench)}


def made_anew(bench):
    """A bench of the same size in which the same deeds were done."""
    found = re.fullmatch(r"Bench\((\d+) slots, (\d+) tracks, \d+ things\)", repr(bench))
    other = Bench(int(found[1]), int(found[2]))
    for deed in bench.deeds():
        other.deed(deed)
    return other


class Model:
    """Netlist, pegs, and the laid netlist with what its registers hold by names."""

    def __init__(self, slots, tracks):
        self.slots, self.tracks = slots, tracks
        self.kinds = {"in": [], "inner": [], "out": []}
        self.pegged = {}
        self.laid = None
        self.held = {}

    def netlist(self):
        return tuple(self.kinds["in"] + self.kinds["inner"] + self.kinds["out"])

    def pegs(self):
        return tuple(sorted(self.pegged.items(), key=lambda peg: peg[1]))

    def held_row(self):
        return "".join(self.held[thing[1]] for thing in self.laid if thing[0] == "reg")

    def refusal(self, deed):
        """(class, fields) of the first refusal, or None; a ring's and a family's field is left out."""
        things = {thing[1]: thing for thing in self.netlist()}
        readable = {name for name in things if things[name][0] != "out"}
        return getattr(self, "refusal_" + deed[0])(things, readable, *deed[1:])

    def new_name(self, things, name):
        if not re.fullmatch("[a-z]{1,8}", name):
            return ("BadName", {})
        return ("Taken", {}) if name in things else None

    def no_pin(self, readable, pins):
        for pin in pins:
            if pin not in readable:
                return ("NoThing", {"name": pin})
        return None

    def too_big(self, kind):
        kinds = [thing[0] for thing in self.netlist()] + [kind]
        over = any(kinds.count(one) > most for one, most in MOST.items())
        if over or kinds.count("gate") + kinds.count("reg") > 8 or len(kinds) > 12:
            return ("TooBig", {})
        return None

    def refusal_input(self, things, readable, name):
        return self.new_name(things, name) or self.too_big("in")

    def bad_bits(self, kind, bits, many):
        wanted = {"gate": {0: 1, 1: 2, 2: 4, 3: 8}, "reg": {1: 1}}[kind].get(many)
        return None if wanted and re.fullmatch("[01]{%d}" % wanted, bits) else ("BadBits", {})

    def refusal_gate(self, things, readable, name, bits, pins):
        return (self.new_name(things, name) or self.bad_bits("gate", bits, len(pins))
                or self.no_pin(readable, pins) or self.too_big("gate"))

    def refusal_register(self, things, readable, name, bits, pin):
        return (self.new_name(things, name) or self.bad_bits("reg", bits, 1)
                or self.no_pin(readable | {name}, (pin,)) or self.too_big("reg"))

    def refusal_output(self, things, readable, name, pin):
        return self.new_name(things, name) or self.no_pin(readable, (pin,)) or self.too_big("out")

    def refusal_bits(self, things, readable, name, bits):
        if name not in things or things[name][0] not in ("gate", "reg"):
            return ("NoThing", {"name": name})
        return self.bad_bits(things[name][0], bits, len(things[name][3]))

    def refusal_wire(self, things, readable, name, at, source):
        if name not in things:
            return ("NoThing", {"name": name})
        if at not in range(len(things[name][3])):
            return ("NoPin", {})
        if source not in readable:
            return ("NoThing", {"name": source})
        return ("Ring", None) if samples.has_ring(self.wired(name, at, source)) else None

    def wired(self, name, at, source):
        told = []
        for thing in self.netlist():
            pins = list(thing[3])
            if thing[1] == name:
                pins[at] = source
            told.append((*thing[:3], tuple(pins)))
        return tuple(told)

    def refusal_drop(self, things, readable, name):
        if name not in things:
            return ("NoThing", {"name": name})
        for other in self.netlist():
            if other[1] != name and name in other[3]:
                return ("Read", {"by": other[1]})
        return None

    def refusal_peg(self, things, readable, name, slot):
        if name not in things:
            return ("NoThing", {"name": name})
        if slot not in range(self.slots):
            return ("NoSlot", {})
        return ("Pegged", {}) if name in self.pegged or slot in self.pegged.values() else None

    def refusal_free(self, things, readable, name):
        if name not in things:
            return ("NoThing", {"name": name})
        return None if name in self.pegged else ("NotPegged", {})

    def pegs_by_places(self):
        names = [thing[1] for thing in self.netlist()]
        return tuple((names.index(name), slot) for name, slot in self.pegs())

    def refusal_lay(self, things, readable):
        least = least_tracks(self.netlist(), self.slots, self.pegs_by_places())
        return ("NoRoom", None) if least is None or least > self.tracks else None

    def refusal_cycle(self, things, readable, row):
        if self.laid is None:
            return ("NotLaid", {})
        return None if re.fullmatch("[01]{%d}" % samples.count(self.laid, "in"), row) else ("BadRow", {})

    def do(self, deed):
        """Do a deed that isn't refused; what it tells."""
        word, *rest = deed
        if word in ("input", "gate", "register", "output"):
            kind = {"input": "in", "register": "reg", "output": "out"}.get(word, word)
            pins = {"input": (), "gate": rest[-1], "register": (rest[-1],), "output": (rest[-1],)}[word]
            bits = rest[1] if word in ("gate", "register") else ""
            self.kinds[{"gate": "inner", "reg": "inner"}.get(kind, kind)].append((kind, rest[0], bits, pins))
        elif word == "bits":
            self.keep([(*thing[:2], rest[1], thing[3]) if thing[1] == rest[0] else thing for thing in self.netlist()])
        elif word == "wire":
            self.keep(self.wired(*rest))
        elif word == "drop":
            self.keep([thing for thing in self.netlist() if thing[1] != rest[0]])
            self.pegged.pop(rest[0], None)
        elif word == "peg":
            self.pegged[rest[0]] = rest[1]
        elif word == "free":
            del self.pegged[rest[0]]
        elif word == "lay":
            self.held = {thing[1]: self.held.get(thing[1], thing[2]) for thing in self.netlist() if thing[0] == "reg"}
            self.laid = self.netlist()
        else:
            told, behind = samples.cycle_by_definition(self.laid, self.held_row(), rest[0])
            self.held = dict(zip([thing[1] for thing in self.laid if thing[0] == "reg"], behind))
            return told
        return None

    def keep(self, things):
        self.kinds = {"in": [thing for thing in things if thing[0] == "in"],
                      "inner": [thing for thing in things if thing[0] in ("gate", "reg")],
                      "out": [thing for thing in things if thing[0] == "out"]}


NAMES = ("a", "b", "c", "d", "e", "f", "g", "abcdefgh", "nobody")
WORDS = ("input", "gate", "gate", "gate", "register", "register", "output", "bits", "wire", "wire", "drop", "peg",
         "free", "lay", "lay", "cycle", "cycle", "cycle")


def some_deed(chance, model):
    """A deed that is most often done, but now and then refused."""
    word = chance.choice(WORDS)
    here = [thing[1] for thing in model.netlist()]
    name = chance.choice(NAMES) if not here or chance.random() < 0.4 else chance.choice(here)
    sources = [thing[1] for thing in model.netlist() if thing[0] != "out"]
    source = chance.choice(sources) if sources and chance.random() < 0.9 else chance.choice(NAMES)
    if word in ("input", "gate", "register", "output") and chance.random() < 0.8:
        name = chance.choice([one for one in NAMES if one not in here] + ["Bad"])

    def some_bits(many):
        return "".join(chance.choice("01") for _ in range(many))

    if word == "gate":
        many = chance.choice((0, 1, 1, 2, 2, 3, 3, 4)) if sources else chance.choice((0, 1))
        bits = some_bits(2 ** many if many < 4 and chance.random() < 0.95 else chance.randrange(9))
        pins = tuple(chance.choice(sources) if sources and chance.random() < 0.95 else chance.choice(NAMES)
                     for _ in range(many))
        return (word, name, bits, pins)
    if word == "register":
        return (word, name, some_bits(chance.choice((1, 1, 1, 1, 1, 0, 2))), chance.choice((source, source, name)))
    if word == "output":
        return (word, name, source)
    if word == "bits":
        return (word, name, some_bits(chance.choice((1, 2, 4, 8))))
    if word == "wire":
        return (word, name, chance.choice((0, 0, 0, 1, 1, 2, 3, -1)), source)
    if word == "peg":
        return (word, name, chance.randrange(-1, model.slots + 1))
    if word == "cycle":
        many = samples.count(model.laid, "in") if model.laid is not None else chance.randrange(5)
        return (word, some_bits(many if chance.random() < 0.9 else chance.randrange(6)))
    return {"lay": ("lay",)}.get(word, (word, name))
