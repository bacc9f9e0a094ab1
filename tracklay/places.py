"""Placings of netlists in a row of slots, and families of stages that bar them."""

from tracklay.nets import nets


def loads(netlist, placing):
    """How many nets cover each slot."""
    told = [0] * len(placing)
    for name, members in nets(netlist):
        covered = [slot for slot, place in enumerate(placing) if place in members]
        for slot in range(covered[0], covered[-1] + 1):
            told[slot] += 1
    return told


def keeps(netlist, placing, slots, tracks, pegs):
    """Whether a tuple of numbers is a placing that keeps the pegs, with no load above the tracks."""
    if len(placing) != slots or sorted([place for place in placing if place != -1]) != list(range(len(netlist))):
        return False
    if not all([0 <= slot < slots and placing[slot] == place for place, slot in pegs]):
        return False
    return all([load <= tracks for load in loads(netlist, placing)])


def placed(netlist, slots, tracks, pegs):
    """("placed", a placing), or ("barred", a family that bars)."""
    if len(netlist) > slots:
        return ("barred", [])
    levels = levels_of(netlist, slots, tracks, pegs)
    if whole_set(netlist) in levels[-1]:
        return ("placed", placing_of(levels, whole_set(netlist)))
    return ("barred", [(slot, members) for slot, level in enumerate(levels) for members in level])


def least_tracks(netlist, slots, pegs):
    """The least number of tracks for which there is a placing, or None."""
    if len(netlist) > slots:
        return None
    # No load is above the number of nets, so that with as many tracks no step is barred.
    last = levels_of(netlist, slots, len(nets(netlist)), pegs)[-1]
    if whole_set(netlist) not in last:
        return None
    return last[whole_set(netlist)][0]


def bars(netlist, slots, tracks, pegs, family):
    """Whether a list of pairs of numbers is a family that bars."""
    if not family:
        return len(netlist) > slots
    there = {stage: True for stage in family}
    if (0, 0) not in there:
        return False
    whole = whole_set(netlist)
    steps = Steps(netlist, slots, pegs)
    for slot, members in there:
        if is_stage(slot, members, slots, whole):
            if slot == slots and members == whole:
                return False
            for behind, load in steps.ways(slot, members):
                if load <= tracks and (slot + 1, behind) not in there:
                    return False
    return True


def whole_set(netlist):
    """The set of all things, as a number."""
    return (1 << len(netlist)) - 1


def is_stage(slot, members, slots, whole):
    """Whether a pair of numbers is a stage."""
    return 0 <= slot <= slots and 0 <= members <= whole and f"{members:b}".count("1") <= slot


class Steps:
    """The steps of a netlist's stages. Their loads hang on the sets alone, so they are reckoned once for all slots."""

    def __init__(self, netlist, slots, pegs):
        self.masks = [sum([1 << place for place in members]) for name, members in nets(netlist)]
        self.choices = [choices_at(netlist, slot, pegs) for slot in range(slots)]
        self.single = [0] + [1 << place for place in range(len(netlist))]
        self.known = {}

    def ways(self, slot, before):
        """The pairs (set behind, load) of the steps from a stage."""
        if slot >= len(self.choices):
            return []
        load_of = self.loads_from(before)
        return [(before | thing, load_of[thing]) for thing in self.choices[slot] if not before & thing]

    def loads_from(self, before):
        """The loads of steps from a set, by the things that they put, as sets of one or none."""
        if before not in self.known:
            put = [thing for thing in self.single if not before & thing]
            self.known[before] = {thing: step_load(self.masks, before, before | thing) for thing in put}
        return self.known[before]


def choices_at(netlist, slot, pegs):
    """What the pegs let be put in a slot, as sets: its pegged thing alone, else nothing or a thing without a peg."""
    if slot in [pegged_slot for place, pegged_slot in pegs]:
        return [1 << place for place in range(len(netlist)) if (place, slot) in pegs]
    pegged = [place for place, pegged_slot in pegs]
    return [0] + [1 << place for place in range(len(netlist)) if place not in pegged]


def step_load(masks, before, after):
    """How many nets cover the slot by which a set grows: those begun behind it and not ended ahead of it."""
    return len([mask for mask in masks if mask & after and mask & before != mask])


def levels_of(netlist, slots, tracks, pegs):
    """For each number of filled slots what is come to by steps that there are tracks for.

    A level has, by the sets of its stages, the pair (least worst load on a way there, set ahead on such a way)."""
    steps = Steps(netlist, slots, pegs)
    levels = [{0: (0, 0)}]
    for slot in range(slots):
        levels.append(next_level(steps, slot, levels[slot], tracks))
    return levels


def next_level(steps, slot, level, tracks):
    """The level behind the steps that fill a slot."""
    told = {}
    for before in level:
        worst_before = level[before][0]
        for behind, load in steps.ways(slot, before):
            worst = max(worst_before, load)
            if load <= tracks and (behind not in told or worst < told[behind][0]):
                told[behind] = (worst, before)
    return told


def placing_of(levels, whole):
    """The placing on whose way the set of all things is come to."""
    places = []
    behind = whole
    for level in reversed(levels[1:]):
        before = level[behind][1]
        # The number of a set of one thing is one longer than its place; nothing gives -1.
        places.append((behind ^ before).bit_length() - 1)
        behind = before
    return tuple(reversed(places))
