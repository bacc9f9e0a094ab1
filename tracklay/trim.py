"""Trimming: netlists without what does nothing for an output."""

from tracklay.meaning import bit_rows, number_of
from tracklay.nets import order


def trimmed(netlist):
    """The netlist, going on as it did, without what does nothing for an output."""
    gates, readings = least_gates(netlist)
    things = [least_thing(thing, gates, readings) for thing in netlist if readings[thing[1]] == thing[1]]
    needed = needed_names(things)
    return tuple([thing for thing in things if thing[0] in ("in", "out") or thing[1] in needed])


def least_gates(netlist):
    """The gates that stay, by names, and for each thing's name the one that is read instead of it."""
    gates = {}
    readings = {thing[1]: thing[1] for thing in netlist}
    first_of = {}
    # Behind those that it reads a gate finds them trimmed already, so that going through them once is enough.
    for place in order(netlist):
        kind, name, bits, pins = netlist[place]
        bits, pins = least_form(bits, [readings[pin] for pin in pins], fixed_bits(gates))
        if bits == "01":
            readings[name] = pins[0]
        elif (bits, pins) in first_of:
            readings[name] = first_of[bits, pins]
        else:
            first_of[bits, pins] = name
            gates[name] = (kind, name, bits, pins)
    return gates, readings


def fixed_bits(gates):
    """The bits of the gates without pins, by names."""
    return {name: gates[name][2] for name in gates if not gates[name][3]}


def least_form(bits, pins, fixed):
    """The bits and pins of a gate over unlike names that it hangs on, where some names' bits are fixed."""
    names = [pin for at, pin in enumerate(pins) if pin not in fixed and pin not in pins[:at]]
    for name in list(names):
        rest = [other for other in names if other != name]
        with_zero = {**fixed, name: "0"}
        if table_over(rest, with_zero, bits, pins) == table_over(rest, {**fixed, name: "1"}, bits, pins):
            # The gate doesn't hang on this name, so that either bit may stand for it.
            names = rest
            fixed = with_zero
    return table_over(names, fixed, bits, pins), tuple(names)


def table_over(names, fixed, bits, pins):
    """The bits that a gate tells for all rows of some names' bits, the other pins' bits being fixed."""
    told = []
    for row in bit_rows(len(names)):
        given = dict(zip(names, row))
        bit_of = {**fixed, **given}
        told.append(bits[number_of([bit_of[pin] for pin in pins])])
    return "".join(told)


def least_thing(thing, gates, readings):
    """A thing that stays, with what it has and reads now."""
    kind, name, bits, pins = thing
    if kind == "gate":
        return gates[name]
    return (kind, name, bits, tuple([readings[pin] for pin in pins]))


def needed_names(things):
    """The names that are come to from some output along pins."""
    pins_of = {thing[1]: thing[3] for thing in things}
    needed = {}
    waiting = [pin for thing in things if thing[0] == "out" for pin in thing[3]]
    while waiting:
        name = waiting.pop()
        if name not in needed:
            needed[name] = True
            waiting.extend(pins_of[name])
    return needed
