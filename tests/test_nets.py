"""[5], `nets` and `order`."""

import unittest

from tests import samples
from tracklay.nets import nets, order


def told_nets(netlist):
    """What `nets` tells, the members as lists."""
    return [(name, list(members)) for name, members in nets(netlist)]


def nets_by_definition(netlist):
    told = []
    for place in range(len(netlist)):
        name = netlist[place][1]
        readers = {at for at in range(len(netlist)) for pin in netlist[at][3] if pin == name}
        if readers:
            told.append((name, sorted(readers | {place})))
    return told


class Nets(unittest.TestCase):
    def test_none(self):
        self.assertEqual(nets(()), [])
        self.assertEqual(nets((("in", "a", "", ()), ("gate", "g", "1", ()))), [])

    def test_ordinary(self):
        self.assertEqual(told_nets(samples.MIXED), [
            ("a", [0, 2, 9]), ("b", [1, 4]), ("both", [2, 6, 7]), ("keep", [3, 8]), ("other", [2, 4]),
            ("one", [4, 5]), ("last", [4, 6])])
        self.assertEqual(nets(netlist=samples.MIXED), nets(samples.MIXED))

    def test_a_reader_of_several_pins_stands_once(self):
        netlist = (("in", "a", "", ()), ("gate", "g", "00010001", ("a", "a", "a")))
        self.assertEqual(told_nets(netlist), [("a", [0, 1])])

    def test_a_thing_that_reads_itself(self):
        self.assertEqual(told_nets((("reg", "r", "1", ("r",)),)), [("r", [0])])
        self.assertEqual(told_nets((("reg", "r", "1", ("r",)), ("out", "z", "", ("r",)))), [("r", [0, 1])])

    def test_readers_ahead_of_the_thing_read(self):
        netlist = (("gate", "g", "01", ("k",)), ("gate", "h", "01", ("k",)), ("gate", "k", "1", ()))
        self.assertEqual(told_nets(netlist), [("k", [0, 1, 2])])

    def test_names_within_other_names(self):
        netlist = (("in", "a", "", ()), ("in", "aa", "", ()), ("out", "z", "", ("aa",)))
        self.assertEqual(told_nets(netlist), [("aa", [1, 2])])

    def test_some(self):
        for seed in range(300):
            netlist = samples.some_netlist(seed)
            self.assertEqual(told_nets(netlist), nets_by_definition(netlist))

    def test_kinds_of_values(self):
        told = nets(samples.MIXED)
        self.assertIs(type(told), list)
        for pair in told:
            self.assertIs(type(pair), tuple)
            self.assertIn(type(pair[1]), (tuple, list))
            self.assertEqual({type(place) for place in pair[1]}, {int})

    def test_a_told_list_is_a_new_one(self):
        told = nets(samples.MIXED)
        again = list(told)
        told.clear()
        self.assertEqual(nets(samples.MIXED), again)


class Order(unittest.TestCase):
    def check(self, netlist):
        told = order(netlist)
        self.assertIs(type(told), tuple)
        self.assertTrue(all(type(place) is int for place in told))
        places = {thing[1]: place for place, thing in enumerate(netlist) if thing[0] == "gate"}
        self.assertEqual(sorted(told), sorted(places.values()))
        for place in told:
            for pin in netlist[place][3]:
                if pin in places:
                    self.assertLess(told.index(places[pin]), told.index(place))
        self.assertEqual(order(netlist=netlist), told)

    def test_none(self):
        self.assertEqual(order(()), ())
        self.assertEqual(order((("in", "a", "", ()), ("reg", "r", "0", ("r",)), ("out", "z", "", ("a",)))), ())

    def test_ordinary(self):
        self.check(samples.MIXED)

    def test_a_chain_told_backwards(self):
        names = "abcdefgh"
        netlist = tuple(samples.gate_of(name, names[at + 1:at + 2]) for at, name in enumerate(names))
        self.check(netlist)
        self.assertEqual(order(netlist), (7, 6, 5, 4, 3, 2, 1, 0))

    def test_a_chain_told_forwards(self):
        names = "abcdefgh"
        netlist = tuple(samples.gate_of(name, names[at - 1:at] if at else ()) for at, name in enumerate(names))
        self.assertEqual(order(netlist), (0, 1, 2, 3, 4, 5, 6, 7))

    def test_a_way_round_through_a_register(self):
        self.check((("gate", "g", "10", ("r",)), ("reg", "r", "0", ("h",)), ("gate", "h", "10", ("g",))))

    def test_all_of_three_gates(self):
        for netlist in samples.three_gates():
            if not samples.has_ring(netlist):
                self.check(netlist)

    def test_some(self):
        for seed in range(300):
            self.check(samples.some_netlist(seed))

    def test_more_gates_than_a_good_netlist_has(self):
        names = ["a" + letter for letter in "abcdefghijklmnopqrst"]
        self.check(tuple(samples.gate_of(name, names[at + 1:at + 4]) for at, name in enumerate(names)))


if __name__ == "__main__":
    unittest.main()
