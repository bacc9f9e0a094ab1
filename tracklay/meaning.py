"""What netlists do, cycle by cycle."""

from tracklay.nets import order


def begun(netlist):
    """The bits that the registers hold at the beginning."""
    return "".join([thing[2] for thing in netlist if thing[0] == "reg"])


def cycle(netlist, held, row):
    """The pair (told row, bits held behind) of one cycle."""
    bit_of = given_bits(netlist, held, row)
    for place in order(netlist):
        thing = netlist[place]
        bit_of[thing[1]] = thing[2][number_of([bit_of[pin] for pin in thing[3]])]
    return read_bits(netlist, "out", bit_of), read_bits(netlist, "reg", bit_of)


def given_bits(netlist, held, row):
    """The bits of the inputs and registers in a cycle, by names."""
    names = names_of(netlist, "in") + names_of(netlist, "reg")
    return dict(zip(names, row + held))


def names_of(netlist, kind):
    """The names of the things of a kind."""
    return [thing[1] for thing in netlist if thing[0] == kind]


def number_of(bits):
    """The number that a list of bits writes, the first one leading; 0 for none."""
    number = 0
    for bit in bits:
        number = 2 * number + int(bit)
    return number


def bit_rows(many):
    """All texts of so many bits, by the numbers that they write."""
    rows = [""]
    for place in range(many):
        rows = [row + bit for row in rows for bit in "01"]
    return rows


def read_bits(netlist, kind, bit_of):
    """The bits that the things of a kind, each of one pin, read."""
    return "".join([bit_of[thing[3][0]] for thing in netlist if thing[0] == kind])


def run(netlist, rows, held=None):
    """The list of the told rows, from some held bits or the beginning."""
    now = begun(netlist) if held is None else held
    told = []
    for row in rows:
        answer, now = cycle(netlist, now, row)
        told.append(answer)
    return told
