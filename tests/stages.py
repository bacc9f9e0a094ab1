"""[10] by its words, with sets of places instead of numbers."""

import functools

from tracklay.nets import nets


@functools.lru_cache(maxsize=None)
def members_of(netlist):
    return tuple(frozenset(members) for name, members in nets(netlist))


def places_in(number):
    return frozenset(place for place in range(number.bit_length()) if number >> place & 1)


def number_of(places):
    return sum(2 ** place for place in places)


def is_stage(netlist, slots, stage):
    slot, number = stage
    if not 0 <= slot <= slots or number < 0:
        return False
    return places_in(number) <= set(range(len(netlist))) and len(places_in(number)) <= slot


def load_of(netlist, ahead, put):
    """The load of the slot in which some things are put behind others: nets on both sides of it, or in it."""
    told = 0
    for members in members_of(netlist):
        from_here_on = members - ahead
        up_to_here = members & (ahead | put)
        told += bool(from_here_on and up_to_here)
    return told


def steps_from(netlist, slots, pegs, stage):
    """The pairs (stage, load) to which steps from a stage lead."""
    slot, number = stage
    if slot == slots:
        return []
    ahead = places_in(number)
    by_slot = {at: place for place, at in pegs}
    by_place = dict(pegs)
    told = []
    for put in [frozenset()] + [frozenset([place]) for place in range(len(netlist)) if place not in ahead]:
        if slot in by_slot and put != {by_slot[slot]}:
            continue
        if any(by_place.get(place, slot) != slot for place in put):
            continue
        told.append(((slot + 1, number_of(ahead | put)), load_of(netlist, ahead, put)))
    return told


def bars_by_definition(netlist, slots, tracks, pegs, family):
    if not family and len(netlist) > slots:
        return True
    there = set(family)
    stages = [stage for stage in there if is_stage(netlist, slots, stage)]
    if (0, 0) not in there or (slots, 2 ** len(netlist) - 1) in stages:
        return False
    return all(behind in there for stage in stages for behind, load in steps_from(netlist, slots, pegs, stage)
               if load <= tracks)


def come_to(netlist, slots, tracks, pegs):
    """All stages that can be come to by steps that there are tracks for."""
    seen = []
    fresh = {(0, 0)}
    while fresh:
        seen += sorted(fresh)
        fresh = {behind for stage in fresh for behind, load in steps_from(netlist, slots, pegs, stage)
                 if load <= tracks}
    return seen
