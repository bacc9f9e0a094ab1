"""Tracks for the nets of a placed netlist, and the times at which its bits come."""

from tracklay.errors import NoThing
from tracklay.nets import nets, order

GATE_TIME = 2


def spans(netlist, placing):
    """The list of triples (name, first slot, last slot) of the nets."""
    told = []
    for name, members in nets(netlist):
        covered = [slot for slot, place in enumerate(placing) if place in members]
        told.append((name, covered[0], covered[-1]))
    return told


def routed(netlist, placing, tracks):
    """("routed", a routing), or ("barred", the first slot with too many nets, their names)."""
    stretches = spans(netlist, placing)
    for slot in range(len(placing)):
        names = [name for name, left, right in stretches if left <= slot <= right]
        if len(names) > tracks:
            return ("barred", slot, names)
    track_of = tracks_from_the_left(stretches)
    return ("routed", [(name, left, right, track_of[name]) for name, left, right in stretches])


def tracks_from_the_left(stretches):
    """A track for each stretch, by names.

    Where a stretch finds no free track, all tracks begun so far are covered at its left end; so there are no more
    tracks than the greatest load."""
    track_of = {}
    ends = []
    for left, right, name in sorted([(first, last, name) for name, first, last in stretches]):
        free = [at for at, end in enumerate(ends) if end < left]
        if free:
            ends[free[0]] = right
            track_of[name] = free[0] + 1
        else:
            ends.append(right)
            track_of[name] = len(ends)
    return track_of


def delay(netlist, placing):
    """The pair (latest time at which a bit comes to a register or an output, a longest way)."""
    slots = slots_by_names(netlist, placing)
    times = told_times(netlist, slots)
    ends = [place for place, thing in enumerate(netlist) if thing[0] in ("reg", "out")]
    if not ends:
        return (0, ())
    number, end = max([(last_pin(netlist[place], slots, times)[0], place) for place in ends])
    return (number, way_to(netlist, end, slots, times))


def arrival(netlist, placing, name):
    """When the bit of an input, gate or register is told."""
    times = told_times(netlist, slots_by_names(netlist, placing))
    if name not in times:
        raise NoThing(name)
    return times[name]


def slots_by_names(netlist, placing):
    """The slots of all things, by names."""
    return {netlist[place][1]: slot for slot, place in enumerate(placing) if place != -1}


def told_times(netlist, slots):
    """When the bits of all inputs, gates and registers are told, by names."""
    times = {thing[1]: 0 for thing in netlist if thing[0] in ("in", "reg")}
    for place in order(netlist):
        thing = netlist[place]
        times[thing[1]] = GATE_TIME
        if thing[3]:
            times[thing[1]] += last_pin(thing, slots, times)[0]
    return times


def last_pin(thing, slots, times):
    """The pair (time, pin) of the bit that comes last to a thing."""
    return max([(times[pin] + abs(slots[pin] - slots[thing[1]]), pin) for pin in thing[3]])


def way_to(netlist, end, slots, times):
    """The way of the bit that comes last to a register or output, from where nothing is waited for."""
    place_of = {thing[1]: place for place, thing in enumerate(netlist)}
    way = [end]
    # A register waits for its pin only where the way ends in it, not where it begins.
    waiting = True
    while waiting:
        before = place_of[last_pin(netlist[way[-1]], slots, times)[1]]
        way.append(before)
        waiting = netlist[before][0] == "gate" and len(netlist[before][3]) > 0
    return tuple(reversed(way))
