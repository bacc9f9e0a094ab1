"""[7], `alike`, `closed` and `parts`."""

import random
import time
import unittest

from tests import samples
from tests.samples import COUNTER, count
from tracklay.alike import alike, closed, parts
from tracklay.errors import LayError, Unlike
from tracklay.trim import trimmed

A = ("in", "a", "", ())
NOTHING = ()
ECHO = (A, ("out", "z", "", ("a",)))
TURNED = (A, ("gate", "g", "10", ("a",)), ("out", "z", "", ("g",)))
LATE = (A, ("reg", "r", "0", ("a",)), ("out", "z", "", ("r",)))
LATE_ONE = (A, ("reg", "r", "1", ("a",)), ("out", "z", "", ("r",)))
LATER = (A, ("reg", "r", "0", ("a",)), ("reg", "s", "0", ("r",)), ("out", "z", "", ("s",)))
NEVER = (A, ("gate", "g", "0", ()), ("out", "z", "", ("g",)))
BLINK = (("reg", "r", "0", ("g",)), ("gate", "g", "10", ("r",)), ("out", "z", "", ("r",)))

# Tells 1 just for one row of four inputs.
KEY = (
    *(("in", name, "", ()) for name in "abcd"),
    ("gate", "g", "00000100", ("a", "b", "c")),
    ("gate", "h", "0010", ("g", "d")),
    ("out", "z", "", ("h",)),
)
NO_KEY = (*KEY[:4], ("gate", "g", "0", ()), ("out", "z", "", ("g",)))

# Goes through all bits of four registers but 0000, and tells 1 just at one of them.
WALK = (
    ("reg", "p", "1", ("x",)),
    ("reg", "q", "0", ("p",)),
    ("reg", "r", "0", ("q",)),
    ("reg", "s", "0", ("r",)),
    ("gate", "x", "0110", ("r", "s")),
    ("gate", "y", "01000000", ("p", "q", "r")),
    ("gate", "w", "0001", ("y", "s")),
    ("out", "z", "", ("w",)),
)
NO_WALK = (("gate", "g", "0", ()), ("out", "z", "", ("g",)))

PAIRS = (
    (NOTHING, NOTHING), (ECHO, ECHO), (ECHO, TURNED), (ECHO, LATE), (LATE, LATE_ONE), (LATE, LATER), (LATER, NEVER),
    (NEVER, ECHO), (BLINK, BLINK), (BLINK, NO_WALK), (KEY, KEY), (KEY, NO_KEY), (WALK, WALK), (WALK, NO_WALK),
    (COUNTER, COUNTER),
)


def turned_bit(netlist, seed):
    """The netlist with one bit of a gate or a register turned about, if it has one."""
    chance = random.Random(seed)
    places = [place for place, thing in enumerate(netlist) if thing[2]]
    if not places:
        return netlist
    place = chance.choice(places)
    kind, name, bits, pins = netlist[place]
    at = chance.randrange(len(bits))
    bits = bits[:at] + "10"[int(bits[at])] + bits[at + 1:]
    return netlist[:place] + ((kind, name, bits, pins),) + netlist[place + 1:]


def some_pairs():
    """Pairs of netlists with as many inputs and outputs, some going alike and some not."""
    for pair in PAIRS:
        yield pair
    for seed in range(60):
        netlist = samples.some_netlist(seed)
        yield netlist, samples.told_anew(netlist, seed)
        yield netlist, trimmed(netlist)
        yield netlist, samples.told_anew(turned_bit(netlist, seed), seed)
    for counts in ((1, 4, 3, 1), (1, 2, 4, 2), (0, 4, 4, 2), (2, 4, 3, 1), (0, 5, 3, 4)):
        for seed in range(12):
            netlist = samples.big_netlist(seed, *counts)
            yield netlist, turned_bit(netlist, seed)
            yield netlist, samples.big_netlist(seed + 100, *counts)


def parts_by_definition(one, other, rows):
    held, other_held = samples.begun_by_definition(one), samples.begun_by_definition(other)
    same = []
    for row in rows:
        told, held = samples.cycle_by_definition(one, held, row)
        other_told, other_held = samples.cycle_by_definition(other, other_held, row)
        same.append(told == other_told)
    return bool(same) and not same[-1] and all(same[:-1])


def closed_by_definition(one, other, table):
    if (samples.begun_by_definition(one), samples.begun_by_definition(other)) not in table:
        return False
    for held, other_held in table:
        for row in samples.words_of_bits(count(one, "in")):
            told, behind = samples.cycle_by_definition(one, held, row)
            other_told, other_behind = samples.cycle_by_definition(other, other_held, row)
            if told != other_told or (behind, other_behind) not in table:
                return False
    return True


class Alike(unittest.TestCase):
    def check(self, one, other):
        """What is told of two netlists, held against a walk over all pairs that can be come to."""
        told = alike(one, other)
        self.assertIs(type(told), tuple)
        self.assertEqual(len(told), 2)
        self.assertIs(type(told[1]), list)
        least, seen = samples.rows_to_part(one, other)
        if least is None:
            self.assertEqual(told[0], "alike")
            self.check_table(one, other, told[1])
        else:
            self.assertEqual(told[0], "apart", (one, other))
            self.assertEqual(len(told[1]), least, (one, other))
            self.assertTrue({len(row) for row in told[1]} <= {count(one, "in")})
            self.assertTrue(parts_by_definition(one, other, told[1]))
            self.assertIs(parts(one, other, told[1]), True)
        return told

    def check_table(self, one, other, table):
        self.assertTrue(all(type(pair) is tuple and len(pair) == 2 for pair in table))
        self.assertTrue(closed_by_definition(one, other, table), (one, other))
        self.assertIs(closed(one, other, table), True)

    def test_some_both_ways_about(self):
        words = []
        for one, other in some_pairs():
            told = self.check(one, other)
            about = self.check(other, one)
            self.assertEqual(told[0], about[0])
            if told[0] == "apart":
                self.assertEqual(len(told[1]), len(about[1]))
            words.append(told[0])
        self.assertGreater(words.count("alike"), 50)
        self.assertGreater(words.count("apart"), 50)

    def test_a_netlist_with_itself(self):
        for seed in range(60):
            netlist = samples.some_netlist(seed)
            self.assertEqual(self.check(netlist, netlist)[0], "alike")

    def test_a_netlist_with_its_trimmed_one_and_told_anew(self):
        for seed in range(40):
            netlist = samples.big_netlist(seed, 2, 5, 3, 2)
            self.assertEqual(self.check(netlist, trimmed(netlist))[0], "alike")
            self.assertEqual(self.check(samples.told_anew(netlist, seed), netlist)[0], "alike")

    def test_nothing_at_all(self):
        self.assertEqual(alike((), ()), ("alike", [("", "")]))
        self.assertEqual(alike((A,), (("in", "b", "", ()),)), ("alike", [("", "")]))

    def test_no_outputs(self):
        silent = (A, ("reg", "r", "0", ("a",)))
        self.assertEqual(self.check(silent, (A,))[0], "alike")
        self.assertEqual(self.check(silent, silent)[0], "alike")

    def test_other_beginnings(self):
        self.assertEqual(self.check(LATE, LATE_ONE)[0], "apart")
        self.assertEqual(len(alike(LATE, LATE_ONE)[1]), 1)
        unread = (A, ("reg", "r", "1", ("a",)), ("reg", "s", "1", ("s",)), ("out", "z", "", ("r",)))
        self.assertEqual(self.check(LATE_ONE, unread)[0], "alike")

    def test_one_row_of_many_inputs(self):
        self.assertEqual(alike(KEY, NO_KEY), ("apart", ["1010"]))
        self.assertEqual(alike(NO_KEY, KEY), ("apart", ["1010"]))

    def test_after_several_cycles(self):
        word, rows = self.check(WALK, NO_WALK)
        self.assertEqual(word, "apart")
        self.assertGreater(len(rows), 10)
        self.assertEqual(alike(LATER, NEVER)[1][0], "1")
        self.assertEqual(len(alike(LATER, NEVER)[1]), 3)

    def test_several_outputs(self):
        two = (A, ("in", "b", "", ()), ("out", "y", "", ("a",)), ("out", "z", "", ("b",)))
        crossed = (A, ("in", "b", "", ()), ("out", "y", "", ("b",)), ("out", "z", "", ("a",)))
        self.assertEqual(self.check(two, crossed)[0], "apart")
        self.assertEqual(self.check(two, two)[0], "alike")

    def test_unlike(self):
        inputs = tuple(("in", name, "", ()) for name in "abcd")
        outputs = tuple(("out", name, "", ("a",)) for name in "wxyz")
        shapes = [(many, told) for many in range(5) for told in range(5) if many or not told]
        for many, told in shapes:
            for other_many, other_told in shapes:
                one, other = inputs[:many] + outputs[:told], inputs[:other_many] + outputs[:other_told]
                if (many, told) == (other_many, other_told):
                    self.assertEqual(alike(one, other)[0], "alike")
                else:
                    with self.assertRaises(Unlike) as caught:
                        alike(one, other)
                    self.assertIs(type(caught.exception), Unlike)
                    self.assertIsInstance(caught.exception, LayError)

    def test_unlike_by_one_kind_or_by_both(self):
        for one, other in ((ECHO, BLINK), (ECHO, (A,)), (ECHO, ()), ((A,), ())):
            with self.assertRaises(Unlike):
                alike(one, other)
            with self.assertRaises(Unlike):
                alike(other, one)

    def test_at_the_bounds(self):
        for counts in ((4, 0, 4, 4), (4, 2, 4, 2), (4, 3, 4, 1), (4, 4, 4, 0)):
            for seed in range(6):
                one = samples.big_netlist(seed, *counts)
                before = time.perf_counter()
                words = [alike(one, samples.told_anew(one, seed))[0], alike(one, turned_bit(one, seed))[0]]
                self.assertLess(time.perf_counter() - before, 1)
                self.assertEqual(words[0], "alike")
        for seed in range(3):
            one = samples.big_netlist(seed, 4, 3, 4, 1)
            self.check(one, samples.big_netlist(seed + 50, 4, 3, 4, 1))
            self.check(one, turned_bit(one, seed))

    def test_all_pairs_of_held_bits(self):
        held = tuple(("reg", name, "0", (pin,)) for name, pin in zip("pqrs", "abcd"))
        one = KEY[:4] + held + (("out", "z", "", ("a",)),)
        other = KEY[:4] + held[::-1] + (("out", "z", "", ("a",)),)
        before = time.perf_counter()
        word, table = alike(one, other)
        self.assertLess(time.perf_counter() - before, 1)
        self.assertEqual(word, "alike")
        self.assertEqual({pair[0] for pair in table}, set(samples.words_of_bits(4)))
        self.check_table(one, other, table)

    def test_by_name_and_asked_again(self):
        for one, other in ((COUNTER, COUNTER), (WALK, NO_WALK), (LATE, LATER)):
            told = alike(other=other, one=one)
            again = (told[0], list(told[1]))
            told[1].reverse()
            told[1].append("no")
            self.assertEqual(alike(one, other), again)


class Closed(unittest.TestCase):
    def test_ordinary(self):
        table = [("0", "0"), ("1", "1")]
        self.assertIs(closed(LATE, LATE, table), True)
        self.assertIs(closed(LATE, LATE, table[::-1]), True)
        self.assertIs(closed(table=table, other=LATE, one=LATE), True)

    def test_the_empty_table(self):
        for one, other in PAIRS:
            self.assertIs(closed(one, other, []), False)

    def test_no_inputs_no_registers_no_outputs(self):
        self.assertIs(closed((), (), [("", "")]), True)
        self.assertIs(closed(ECHO, ECHO, [("", "")]), True)
        self.assertIs(closed(ECHO, TURNED, [("", "")]), False)
        self.assertIs(closed(NO_WALK, NO_WALK, [("", "")]), True)
        self.assertIs(closed(BLINK, BLINK, [("0", "0"), ("1", "1")]), True)
        self.assertIs(closed(BLINK, BLINK, [("0", "0")]), False)
        silent = (A, ("reg", "r", "0", ("a",)))
        self.assertIs(closed(silent, (A,), [("0", ""), ("1", "")]), True)
        self.assertIs(closed(silent, (A,), [("0", "")]), False)

    def test_without_the_pair_of_the_beginnings(self):
        kept = (("reg", "r", "0", ("r",)), ("out", "z", "", ("r",)))
        self.assertIs(closed(kept, kept, [("1", "1")]), False)
        self.assertIs(closed(kept, kept, [("0", "0")]), True)
        self.assertIs(closed(kept, kept, [("0", "0"), ("1", "1")]), True)
        self.assertIs(closed(kept, kept, [("0", "0"), ("0", "1")]), False)

    def test_beginnings_that_differ(self):
        self.assertIs(closed(LATE, LATE_ONE, [("0", "0"), ("1", "1")]), False)
        self.assertIs(closed(LATE, LATE_ONE, [("0", "1"), ("0", "0"), ("1", "1")]), False)

    def test_just_one_row_tells_otherwise(self):
        self.assertIs(closed(KEY, NO_KEY, [("", "")]), False)
        self.assertIs(closed(KEY, KEY, [("", "")]), True)

    def test_a_pair_left_out_put_in_or_doubled(self):
        for one, other in some_pairs():
            if samples.rows_to_part(one, other)[0] is not None:
                continue
            table = alike(one, other)[1]
            self.assertIs(closed(one, other, table + table[-1:]), True)
            for at in range(len(table)):
                spoilt = table[:at] + table[at + 1:]
                self.assertIs(closed(one, other, spoilt), closed_by_definition(one, other, spoilt))
            for pair in self.all_pairs(one, other)[:40]:
                more = [pair] + table
                self.assertIs(closed(one, other, more), closed_by_definition(one, other, more))

    def all_pairs(self, one, other):
        return [(held, other_held) for held in samples.words_of_bits(count(one, "reg"))
                for other_held in samples.words_of_bits(count(other, "reg"))]

    def test_the_least_table_has_no_pair_to_spare(self):
        for one, other in PAIRS:
            least, seen = samples.rows_to_part(one, other)
            if least is None:
                table = sorted(seen)
                self.assertIs(closed(one, other, table), True)
                for at in range(len(table)):
                    self.assertIs(closed(one, other, table[:at] + table[at + 1:]), False)

    def test_all_tables_of_small_netlists(self):
        for one, other in ((LATE, LATE), (LATE, LATE_ONE), (BLINK, BLINK), (LATE, ECHO), (LATE, LATER)):
            pairs = self.all_pairs(one, other)
            for bits in samples.words_of_bits(len(pairs)):
                table = [pair for pair, bit in zip(pairs, bits) if bit == "1"]
                self.assertIs(closed(one, other, table), closed_by_definition(one, other, table))

    def test_tables_of_netlists_that_part(self):
        for one, other in some_pairs():
            if samples.rows_to_part(one, other)[0] is not None:
                self.assertIs(closed(one, other, self.all_pairs(one, other)), False)
                self.assertIs(closed(one, other, sorted(samples.rows_to_part(one, other)[1])), False)

    def test_the_handed_list_stays_as_it_was(self):
        table = [("1", "1"), ("0", "0"), ("1", "1")]
        self.assertIs(closed(LATE, LATE, table), True)
        self.assertEqual(table, [("1", "1"), ("0", "0"), ("1", "1")])
        table.remove(("0", "0"))
        self.assertIs(closed(LATE, LATE, table), False)


class Parts(unittest.TestCase):
    def test_ordinary(self):
        self.assertIs(parts(LATE, LATER, ["1", "0"]), True)
        self.assertIs(parts(LATE, LATER, ["1", "1"]), True)
        self.assertIs(parts(LATE, LATER, ["0", "0"]), False)
        self.assertIs(parts(LATE, LATER, ["0", "1", "0"]), True)
        self.assertIs(parts(ECHO, TURNED, ["0"]), True)
        self.assertIs(parts(ECHO, ECHO, ["0"]), False)
        self.assertIs(parts(rows=["1"], other=NEVER, one=ECHO), True)

    def test_no_rows_at_all(self):
        for one, other in some_pairs():
            self.assertIs(parts(one, other, []), False)

    def test_a_row_more_and_one_fewer(self):
        for one, other in some_pairs():
            word, rows = alike(one, other)
            if word == "apart":
                self.assertIs(parts(one, other, rows), True)
                self.assertIs(parts(one, other, rows[:-1]), False)
                for row in samples.words_of_bits(count(one, "in")):
                    self.assertIs(parts(one, other, rows + [row]), False)

    def test_rows_that_differ_ahead_of_the_last_one(self):
        self.assertIs(parts(ECHO, TURNED, ["0", "0"]), False)
        self.assertIs(parts(ECHO, NEVER, ["1", "1"]), False)
        self.assertIs(parts(ECHO, NEVER, ["1", "0"]), False)
        self.assertIs(parts(ECHO, NEVER, ["0", "1"]), True)

    def test_one_of_several_outputs_differs(self):
        one = (A, ("out", "y", "", ("a",)), ("out", "z", "", ("a",)))
        other = (A, ("gate", "g", "0", ()), ("out", "y", "", ("a",)), ("out", "z", "", ("g",)))
        self.assertIs(parts(one, other, ["1"]), True)
        self.assertIs(parts(one, other, ["0"]), False)

    def test_no_inputs_and_no_outputs(self):
        self.assertIs(parts(BLINK, NO_WALK, ["", ""]), True)
        self.assertIs(parts(BLINK, NO_WALK, [""]), False)
        self.assertIs(parts((), (), [""]), False)
        self.assertIs(parts((A,), (A, ("reg", "r", "0", ("a",))), ["1", "0"]), False)

    def test_some(self):
        chance = random.Random(7)
        for one, other in some_pairs():
            words = samples.words_of_bits(count(one, "in"))
            for many in (1, 2, 3, 5):
                rows = [chance.choice(words) for _ in range(many)]
                self.assertIs(parts(one, other, rows), parts_by_definition(one, other, rows))

    def test_the_handed_list_stays_as_it_was(self):
        rows = ["1", "0"]
        self.assertIs(parts(LATE, LATER, rows), True)
        self.assertEqual(rows, ["1", "0"])


if __name__ == "__main__":
    unittest.main()
