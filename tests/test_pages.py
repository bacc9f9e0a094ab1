"""[23] and the interface's section tracklay/pages.py."""

import unittest

from tests.benches import FLIP, bench_with
from tests.model import everything
from tracklay.bench import Bench
from tracklay.errors import LayError, NoPage, NothingLeft
from tracklay.pages import bench_of, page

PAGE = """bench 8 3
input go
register now 0 now
gate next 0110 go now
wire now 0 next
output told now
peg go 2
lay
cycle 1
free go
bits next 1001
drop told
lay
cycle 0"""


class Page(unittest.TestCase):
    def test_ordinary(self):
        bench = bench_with(*FLIP, ("peg", "go", 2), ("lay",), ("cycle", "1"), ("free", "go"), ("bits", "next", "1001"),
                           ("drop", "told"), ("lay",), ("cycle", "0"))
        self.assertEqual(page(bench), PAGE)
        self.assertEqual(page(bench=bench), PAGE)
        self.assertEqual(str(bench), PAGE)
        self.assertEqual(everything(bench_of(PAGE)), everything(bench))

    def test_without_deeds(self):
        for slots, tracks in ((1, 1), (14, 6), (8, 3), (10, 2)):
            text = f"bench {slots} {tracks}"
            self.assertEqual(page(Bench(slots, tracks)), text)
            bench = bench_of(text)
            self.assertIs(type(bench), Bench)
            self.assertEqual(bench, Bench(slots, tracks))

    def test_a_row_of_no_inputs(self):
        bench = bench_with(("lay",), ("cycle", ""))
        self.assertEqual(page(bench), "bench 8 3\nlay\ncycle -")
        self.assertEqual(bench_of(page(bench)), bench)

    def test_only_the_deeds_that_are_kept(self):
        bench = bench_with(*FLIP)
        bench.back()
        self.assertEqual(page(bench), "\n".join(PAGE.split("\n")[:5]))
        told = bench_of(page(bench))
        self.assertEqual(told, bench)
        with self.assertRaises(NothingLeft):
            told.again()
        bench.again()
        self.assertEqual(page(bench), "\n".join(PAGE.split("\n")[:6]))

    def test_read_back_goes_on_alike(self):
        bench = bench_of(PAGE)
        twin = bench_of(text=PAGE)
        self.assertEqual(bench, twin)
        for one in (bench, twin):
            one.cycle("1")
            one.back()
            one.back()
            one.again()
        self.assertEqual(everything(bench), everything(twin))
        self.assertEqual(page(bench), PAGE)

    def test_taken_back_to_the_beginning(self):
        bench = bench_of(PAGE)
        for _ in range(PAGE.count("\n")):
            bench.back()
        self.assertEqual(page(bench), "bench 8 3")
        with self.assertRaises(NothingLeft):
            bench.back()


class Refused(unittest.TestCase):
    def refused(self, text, row):
        for _ in range(2):
            with self.subTest(text), self.assertRaises(NoPage) as caught:
                bench_of(text)
            self.assertEqual(vars(caught.exception), {"row": row})
            self.assertIs(type(caught.exception.row), int)
            self.assertIsInstance(caught.exception, LayError)

    def test_the_first_row(self):
        for row in ("", " ", "bench", "bench 8", "bench 8 3 3", "bench 8 3 ", " bench 8 3", "bench  8 3", "Bench 8 3",
                    "bench 08 3", "bench 8 03", "bench 8 a", "bench a 3", "bench 8 -3", "bench +8 3", "bench 100 3",
                    "bench 8 100", "input go", "lay", "bench 8\t3", "desk 8 3", "bench8 3", "bench 8 3.0"):
            self.refused(row, 0)
            self.refused(row + "\ninput go", 0)
            self.refused(row + "\nwhat", 0)

    def test_sizes_that_no_bench_has(self):
        for slots, tracks in ((0, 3), (15, 3), (99, 3), (8, 0), (8, 7), (8, 99), (0, 0)):
            self.refused(f"bench {slots} {tracks}", 0)
            self.refused(f"bench {slots} {tracks}\ninput go", 0)

    def test_a_row_that_is_no_deed(self):
        rows = PAGE.split("\n")
        for at in range(1, len(rows) + 1):
            for wrong in ("", "what", "lay ", "input", "bench 8 3", "input Go", "peg go 02", "cycle", "cycle 2"):
                self.refused("\n".join(rows[:at] + [wrong] + rows[at:]), at)
                self.refused("\n".join(rows[:at] + [wrong, "what"]), at)

    def test_a_deed_that_would_be_refused_at_its_place(self):
        for rows, at in (
            ("input a\ninput a", 2),
            ("output z a\ninput a", 1),
            ("gate g 01 g", 1),
            ("gate g 01", 1),
            ("register r 0 r\ndrop r\ndrop r", 3),
            ("register r 0 r\noutput z r\ndrop r\nwhat", 3),
            ("input a\npeg a 8", 2),
            ("input a\npeg a 7\npeg a 6", 3),
            ("input a\nfree a", 2),
            ("input a\nwire a 0 a", 2),
            ("gate g 1\ngate h 01 g\nwire h 0 h", 3),
            ("gate g 1\nbits g 11", 2),
            ("cycle -", 1),
            ("lay\ncycle -\ncycle 0", 3),
            ("input a\ninput b\ninput c\ninput d\ninput e", 5),
            ("input a\ninput b\ninput c\ninput d\ngate e 1\ngate f 1\ngate g 1\ngate h 1\ngate i 1\nlay", 10),
        ):
            self.refused("bench 8 3\n" + rows, at)
            self.refused("bench 8 3\n" + rows + "\nlay\nwhat", at)

    def test_something_wrong_behind(self):
        self.refused(PAGE + "\n", 14)
        self.refused(PAGE + " ", 13)
        self.refused(PAGE + "\n\n", 14)
        self.refused("bench 8 3\n", 1)
        self.refused("bench 8 3\nlay\n", 2)
        self.refused("\n" + PAGE, 0)

    def test_the_empty_text(self):
        self.refused("", 0)
        self.refused("\n", 0)


if __name__ == "__main__":
    unittest.main()
