"""Whether two netlists go alike for ever: closed tables, and the shortest rows that part them."""

from tracklay.errors import Unlike
from tracklay.meaning import begun, bit_rows, cycle, names_of, run


def alike(one, other):
    """("alike", a closed table), or ("apart", rows that part them, none shorter)."""
    if ends_of(one) != ends_of(other):
        raise Unlike("not as many inputs or outputs")
    rows = input_rows(one)
    cycles = all_cycles(one)
    other_cycles = all_cycles(other)
    pairs = [beginnings(one, other)]
    ways = {pairs[0]: []}
    at = 0
    # Pairs that take fewer rows are looked at first, so that the first rows that part are the shortest.
    while at < len(pairs):
        way = ways[pairs[at]]
        for row in rows:
            same, behind = step(cycles, other_cycles, pairs[at], row)
            if not same:
                return ("apart", way + [row])
            if behind not in ways:
                ways[behind] = way + [row]
                pairs.append(behind)
        at += 1
    return ("alike", pairs)


def closed(one, other, table):
    """Whether a list of pairs of held bits is a closed table."""
    there = {pair: True for pair in table}
    if beginnings(one, other) not in there:
        return False
    rows = input_rows(one)
    cycles = all_cycles(one)
    other_cycles = all_cycles(other)
    for pair in there:
        for row in rows:
            same, behind = step(cycles, other_cycles, pair, row)
            if not same or behind not in there:
                return False
    return True


def parts(one, other, rows):
    """Whether the last row makes them tell otherwise and none ahead does."""
    told = run(one, rows)
    other_told = run(other, rows)
    return told[:-1] == other_told[:-1] and told[-1:] != other_told[-1:]


def ends_of(netlist):
    """How many inputs and outputs a netlist has."""
    return len(names_of(netlist, "in")), len(names_of(netlist, "out"))


def input_rows(netlist):
    """All rows of inputs."""
    return bit_rows(len(names_of(netlist, "in")))


def beginnings(one, other):
    """The pair of the bits held at the beginning."""
    return begun(one), begun(other)


def all_cycles(netlist):
    """The pairs (told row, bits held behind) by all held bits and rows; many pairs of held bits share them."""
    helds = bit_rows(len(begun(netlist)))
    return {(held, row): cycle(netlist, held, row) for held in helds for row in input_rows(netlist)}


def step(cycles, other_cycles, pair, row):
    """Whether both tell the same in a cycle from a pair of held bits, and the pair behind."""
    held, other_held = pair
    told, behind = cycles[held, row]
    other_told, other_behind = other_cycles[other_held, row]
    return told == other_told, (behind, other_behind)
