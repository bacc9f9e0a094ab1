"""Benches on which several tests look."""

from tracklay.bench import Bench
from tracklay.image import image_of, in_order, read, sheet_of
from tracklay.places import keeps
from tracklay.tracks import delay

# Tells what its register holds, which turns in each cycle whose input is 1.
FLIP = (
    ("input", "go"),
    ("register", "now", "0", "now"),
    ("gate", "next", "0110", ("go", "now")),
    ("wire", "now", 0, "next"),
    ("output", "told", "now"),
)


def bench_with(*deeds, slots=8, tracks=3):
    told = Bench(slots, tracks)
    for deed in deeds:
        told.deed(deed)
    return told


def bench_of_netlist(netlist, slots, tracks):
    """A bench with this netlist under edit; gates are put first as they are, their pins wired behind."""
    bench = Bench(slots, tracks)
    for kind, name, bits, pins in netlist:
        if kind == "in":
            bench.entry(name)
    for kind, name, bits, pins in netlist:
        if kind == "reg":
            bench.keeper(name, bits, name)
    waiting = [thing for thing in netlist if thing[0] == "gate"]
    while waiting:
        for kind, name, bits, pins in list(waiting):
            if all(pin in [thing[1] for thing in bench.netlist()] for pin in pins):
                bench.gate(name, bits, pins)
                waiting = [thing for thing in waiting if thing[1] != name]
    for kind, name, bits, pins in netlist:
        if kind == "reg":
            bench.wire(name, 0, pins[0])
        elif kind == "out":
            bench.output(name, pins[0])
    return bench


def check_laying(test, bench, slots, tracks):
    """All that the document promises of a laying that was just laid."""
    netlist, placing, routing = bench.laid()
    names = [thing[1] for thing in netlist]
    test.assertEqual(netlist, bench.netlist())
    pegs = tuple((names.index(name), slot) for name, slot in bench.pegs())
    test.assertIs(keeps(netlist, placing, slots, tracks, pegs), True)
    taken = [(slot, track) for name, left, right, track in routing for slot in range(left, right + 1)]
    test.assertEqual(len(taken), len(set(taken)))
    test.assertTrue(all(1 <= track <= tracks for slot, track in taken))
    test.assertEqual(bench.image(), image_of(netlist, placing, routing, tracks))
    test.assertEqual(bench.sheet(), sheet_of(netlist, placing))
    test.assertEqual(in_order(read(bench.image(), tracks, bench.sheet()), tuple(names)), netlist)
    test.assertEqual(bench.delay(), delay(netlist, placing))
    test.assertIs(bench.stale(), False)
