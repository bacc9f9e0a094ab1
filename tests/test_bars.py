"""[10] and `bars`."""

import itertools
import random
import unittest

from tests import samples
from tests.stages import bars_by_definition, come_to, is_stage, load_of, places_in, steps_from
from tests.test_places import ALONE, BOTH, ROUND, SMALL, TWO_WIRES, UNREAD, WIRE, all_placings, loads_by_definition
from tracklay.places import bars, least_tracks, placed

# Pairs of numbers that are no stage of two things in two slots.
NO_STAGES = ((-1, 0), (0, -1), (0, 1), (1, 3), (2, 4), (3, 0), (10 ** 30, 10 ** 30), (-10 ** 30, -10 ** 30))


def all_stages(netlist, slots):
    pairs = itertools.product(range(slots + 1), range(2 ** len(netlist)))
    return [stage for stage in pairs if is_stage(netlist, slots, stage)]


def barred_cases():
    """Netlists, slots, tracks and pegs for which there is no placing."""
    for seed, netlist in enumerate(SMALL):
        chance = random.Random(seed)
        for slots in (max(1, len(netlist)), len(netlist) + 1):
            many = min(2, len(netlist))
            pegs = tuple(zip(chance.sample(range(len(netlist)), many), chance.sample(range(slots), many)))
            for some in ((), pegs):
                for tracks in range(least_tracks(netlist, slots, some)):
                    yield netlist, slots, tracks, some


class StepsByDefinition(unittest.TestCase):
    def test_a_steps_load_is_the_slots_in_every_placing_that_goes_on_so(self):
        for netlist in SMALL:
            for placing in all_placings(netlist, len(netlist) + 1):
                told = loads_by_definition(netlist, placing)
                for slot, place in enumerate(placing):
                    ahead = frozenset(placing[:slot]) - {-1}
                    self.assertEqual(load_of(netlist, ahead, frozenset([place]) - {-1}), told[slot])


class Bars(unittest.TestCase):
    def check(self, netlist, slots, tracks, pegs, family):
        told = bars(netlist, slots, tracks, pegs, family)
        self.assertIs(told, bars_by_definition(netlist, slots, tracks, pegs, family),
                      (netlist, slots, tracks, pegs, family))
        return told

    def test_ordinary(self):
        self.assertIs(bars(WIRE, 2, 0, (), [(0, 0), (1, 0), (2, 0)]), True)
        self.assertIs(bars(WIRE, 2, 1, (), [(0, 0), (1, 0), (2, 0)]), False)
        self.assertIs(bars(family=[(0, 0), (1, 0)], pegs=((0, 1),), tracks=0, slots=2, netlist=WIRE), True)
        self.assertIs(bars(ALONE, 1, 0, (), [(0, 0), (1, 0)]), True)
        self.assertIs(bars(ALONE, 1, 0, (), [(0, 0)]), False)
        self.assertIs(bars(ALONE, 1, 0, ((0, 0),), [(0, 0)]), True)
        self.assertIs(bars(ALONE, 1, 1, ((0, 0),), [(0, 0), (1, 1)]), False)

    def test_told_families_and_all_that_can_be_come_to(self):
        for netlist, slots, tracks, pegs in barred_cases():
            word, family = placed(netlist, slots, tracks, pegs)
            self.assertEqual(word, "barred")
            self.assertIs(self.check(netlist, slots, tracks, pegs, family), True)
            all_of_them = come_to(netlist, slots, tracks, pegs)
            self.assertIs(self.check(netlist, slots, tracks, pegs, all_of_them), True)
            self.assertIs(self.check(netlist, slots, tracks, pegs, all_of_them[::-1]), True)
            self.assertIs(self.check(netlist, slots, tracks, pegs, all_of_them + family), True)

    def test_a_stage_left_out(self):
        for netlist, slots, tracks, pegs in barred_cases():
            family = come_to(netlist, slots, tracks, pegs)
            for at in range(len(family)):
                self.assertIs(self.check(netlist, slots, tracks, pegs, family[:at] + family[at + 1:]), False)

    def test_more_stages_than_need_be(self):
        chance = random.Random(2)
        for netlist, slots, tracks, pegs in barred_cases():
            family = come_to(netlist, slots, tracks, pegs)
            stages = all_stages(netlist, slots)
            for stage in chance.sample(stages, min(12, len(stages))):
                self.check(netlist, slots, tracks, pegs, [stage] + family)
            # All from which the end can't be come to.
            lost = self.lost_stages(netlist, slots, tracks, pegs)
            self.assertIs(self.check(netlist, slots, tracks, pegs, lost), True)

    def lost_stages(self, netlist, slots, tracks, pegs):
        good = {(slots, 2 ** len(netlist) - 1)}
        for stage in sorted(all_stages(netlist, slots), reverse=True):
            if any(load <= tracks and behind in good for behind, load in steps_from(netlist, slots, pegs, stage)):
                good.add(stage)
        return [stage for stage in all_stages(netlist, slots) if stage not in good]

    def test_with_all_slots_filled_and_all_things(self):
        for netlist, slots, tracks, pegs in barred_cases():
            family = come_to(netlist, slots, tracks, pegs)
            self.assertIs(bars(netlist, slots, tracks, pegs, family + [(slots, 2 ** len(netlist) - 1)]), False)
            self.assertIs(bars(netlist, slots, tracks, pegs, all_stages(netlist, slots)), False)

    def test_without_the_first_stage(self):
        self.assertIs(bars(WIRE, 2, 0, (), [(1, 0), (2, 0)]), False)
        self.assertIs(bars(WIRE, 2, 0, (), [(2, 0)]), False)
        self.assertIs(bars(WIRE, 2, 0, (), [(0, -1), (3, 0)]), False)

    def test_where_there_is_a_placing_none_bars(self):
        for netlist in SMALL:
            slots = max(1, len(netlist))
            tracks = least_tracks(netlist, slots, ())
            self.assertIs(bars(netlist, slots, tracks, (), come_to(netlist, slots, tracks, ())), False)
            self.assertIs(bars(netlist, slots, tracks, (), all_stages(netlist, slots)), False)
            self.assertIs(bars(netlist, slots, tracks, (), all_stages(netlist, slots)[:-1]), False)
        for slots in range(1, 4):
            self.assertIs(bars((), slots, 0, (), [(slot, 0) for slot in range(slots + 1)]), False)
            self.assertIs(bars((), slots, 0, (), [(slot, 0) for slot in range(slots)]), False)

    def test_the_empty_family(self):
        for netlist in SMALL:
            for slots in range(1, 7):
                for tracks in (0, 1, 50):
                    self.assertIs(bars(netlist, slots, tracks, (), []), len(netlist) > slots)
        self.assertIs(bars(BOTH, 3, 0, ((0, 0),), []), True)
        self.assertIs(bars(BOTH, 4, 0, ((0, 0),), []), False)

    def test_more_things_than_slots(self):
        for netlist in (WIRE, BOTH, ROUND, UNREAD):
            for slots in range(1, len(netlist)):
                for tracks in (0, 1, 2, 9):
                    family = come_to(netlist, slots, tracks, ())
                    self.assertIs(self.check(netlist, slots, tracks, (), family), True)
                    whole = (slots, 2 ** len(netlist) - 1)
                    self.assertIs(self.check(netlist, slots, tracks, (), family + [whole]), True)
                    self.assertIs(self.check(netlist, slots, tracks, (), family[1:]), False)
                    self.assertIs(self.check(netlist, slots, tracks, (), family[:-1]), False)
                    self.assertIs(self.check(netlist, slots, tracks, (), [whole]), False)

    def test_pairs_that_are_no_stage_lead_nowhere(self):
        family = [(0, 0), (1, 0), (2, 0)]
        for many in (1, 2, len(NO_STAGES)):
            for more in itertools.combinations(NO_STAGES, many):
                self.assertIs(bars(WIRE, 2, 0, (), [*more, *family]), True)
                self.assertIs(bars(WIRE, 2, 0, (), [*more, *family[:2]]), False)
                self.assertIs(bars(WIRE, 2, 0, (), [*more]), False)
                self.assertIs(bars(WIRE, 2, 1, (), [*more, *family]), False)
        for number in (-1, -2, 2 ** 4, 2 ** 5 + 1, 10 ** 20):
            for slot in (-5, 0, 1, 2, 3, 4, 5, 99):
                family = come_to(BOTH, 4, 2, ())
                self.assertIs(bars(BOTH, 4, 2, (), family + [(slot, number)]), True)

    def test_all_families_of_two_things_in_two_slots(self):
        stages = all_stages(WIRE, 2) + [(0, 1), (1, 3), (3, 0)]
        two_alone = (("in", "a", "", ()), ("in", "b", "", ()))
        own = (("reg", "r", "0", ("r",)), ("in", "a", "", ()))[::-1]
        cases = [(netlist, tracks, pegs) for netlist in (WIRE, own, two_alone) for tracks in (0, 1)
                 for pegs in ((), ((0, 0),), ((1, 0),), ((1, 1),), ((1, 0), (0, 1)), ((0, 2),))]
        for bits in samples.words_of_bits(len(stages)):
            family = [stage for stage, bit in zip(stages, bits) if bit == "1"]
            if (0, 0) in family or len(family) < 3:
                for netlist, tracks, pegs in cases:
                    self.check(netlist, 2, tracks, pegs, family)

    def test_steps_that_the_pegs_do_not_let(self):
        # The slot of a peg isn't empty, and no other thing's; its thing lies in no other slot.
        least = [(0, 0), (1, 0), (1, 4), (2, 1), (2, 5), (3, 1), (3, 5)]
        self.assertIs(bars(UNREAD, 3, 0, ((0, 1), (1, 5)), least), True)
        self.assertIs(bars(UNREAD, 3, 0, ((1, 5), (0, 1)), least[:-1]), False)
        # No step where the pegged thing is in the set already: (1, 1) leads nowhere.
        family = [(0, 0), (1, 0), (1, 1), (1, 4), (2, 1), (2, 5), (3, 1), (3, 5)]
        self.assertIs(bars(UNREAD, 3, 0, ((0, 1), (1, 5)), family), True)
        self.assertIs(bars(UNREAD, 3, 0, ((1, 5),), family), False)

    def test_pegs_of_small_netlists(self):
        chance = random.Random(6)
        for netlist in (TWO_WIRES, BOTH, ROUND, UNREAD):
            slots = len(netlist)
            stages = all_stages(netlist, slots)
            for _ in range(40):
                many = chance.randrange(1, slots + 1)
                pegs = tuple(zip(chance.sample(range(slots), many), chance.sample(range(slots + 1), many)))
                for tracks in range(4):
                    family = come_to(netlist, slots, tracks, pegs)
                    self.check(netlist, slots, tracks, pegs, family)
                    self.check(netlist, slots, tracks, pegs, family + [chance.choice(stages)])
                    self.check(netlist, slots, tracks, pegs, chance.sample(family, len(family) - 1))

    def test_tracks_far_off(self):
        self.assertIs(bars(WIRE, 1, 10 ** 30, (), []), True)
        self.assertIs(bars(WIRE, 2, 10 ** 30, (), come_to(WIRE, 2, 9, ())), False)
        self.assertIs(bars(WIRE, 2, 10 ** 30, ((0, 9),), come_to(WIRE, 2, 9, ((0, 9),))), True)

    def test_the_handed_list_stays_as_it_was(self):
        family = [(2, 0), (0, 0), (7, 7), (1, 0), (0, 0)]
        self.assertIs(bars(WIRE, 2, 0, (), family), True)
        self.assertEqual(family, [(2, 0), (0, 0), (7, 7), (1, 0), (0, 0)])
        family.remove((1, 0))
        self.assertIs(bars(WIRE, 2, 0, (), family), False)

    def test_sets_are_written_by_places(self):
        self.assertEqual([sorted(places_in(number)) for number in (0, 1, 6, 8)], [[], [0], [1, 2], [3]])
        told = placed(TWO_WIRES, 4, 1, ((0, 0), (2, 2)))
        self.assertIn((1, 1), told[1])
        self.assertNotIn((1, 0), told[1])


if __name__ == "__main__":
    unittest.main()
