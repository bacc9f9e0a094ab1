"""[24] and the interface's section tracklay/desk.py."""

import time
import unittest

from tests.benches import FLIP, bench_of_netlist, bench_with
from tests.model import everything
from tests.samples import big_netlist
from tracklay import errors
from tracklay.bench import Bench
from tracklay.desk import Desk
from tracklay.pages import page

NO_NAMES = ("", "A", "abcdefghi", "a1", "a b", " a", "a\n", "-", "1")


def desk_with(*names, deeds=FLIP):
    desk = Desk()
    for name in names:
        desk.open_one(name, 8)
        for deed in deeds:
            desk.deed(name, deed)
    return desk


def all_of(desk):
    """All that can be asked of a desk, what was taken back in its benches too."""
    told = [len(desk)]
    for name in desk.names():
        view = desk.view(name)
        told.append((name, desk.page(name), everything(view)))
        try:
            while True:
                view.again()
                told.append(page(view))
        except errors.NothingLeft:
            pass
    return told


class Refusing(unittest.TestCase):
    def refused(self, desk, refusal, method, *handed, **fields):
        before = all_of(desk)
        for _ in range(2):
            with self.assertRaises((errors.LayError, errors.Absent)) as caught:
                getattr(desk, method)(*handed)
            self.assertIs(type(caught.exception), getattr(errors, refusal), (method, handed))
            self.assertEqual(vars(caught.exception), fields)
        self.assertEqual(all_of(desk), before)


class Opening(Refusing):
    def test_ordinary(self):
        desk = Desk()
        self.assertEqual((len(desk), desk.names()), (0, []))
        self.assertIsNone(desk.open_one("b", 5, 2))
        self.assertIsNone(desk.open_one("a", 7))
        self.assertIsNone(desk.open_one(tracks=6, slots=14, name="zzzzzzzz"))
        self.assertEqual((len(desk), desk.names()), (3, ["b", "a", "zzzzzzzz"]))
        self.assertEqual([desk.page(name) for name in desk.names()], ["bench 5 2", "bench 7 3", "bench 14 6"])

    def test_refused(self):
        desk = desk_with("a")
        for name in NO_NAMES:
            self.refused(desk, "BadName", "open_one", name, 5, 2)
            self.refused(desk, "BadName", "open_one", name, 0, 9)
        self.refused(desk, "Known", "open_one", "a", 5, 2)
        self.refused(desk, "Known", "open_one", "a", 0, 9)
        for slots, tracks in ((0, 3), (15, 3), (-1, 3), (5, 0), (5, 7), (5, -1)):
            self.refused(desk, "BadSize", "open_one", "b", slots, tracks)
        self.refused(desk, "BadSize", "open_one", "b", 0)

    def test_told_names_are_a_new_list(self):
        desk = desk_with("a", "b")
        desk.names().clear()
        self.assertEqual(desk.names(), ["a", "b"])
        self.assertIs(type(desk.names()), list)


class Reading(Refusing):
    def test_ordinary(self):
        desk = desk_with("a")
        bench = bench_with(*FLIP, ("lay",), ("cycle", "1"))
        self.assertIsNone(desk.read("b", page(bench)))
        self.assertIsNone(desk.read(text="bench 3 1", name="c"))
        self.assertEqual(desk.names(), ["a", "b", "c"])
        self.assertEqual(everything(desk.view("b")), everything(bench))
        self.refused(desk, "NothingLeft", "again", "b")

    def test_refused(self):
        desk = desk_with("a")
        for name in NO_NAMES:
            self.refused(desk, "BadName", "read", name, "bench 3 1")
            self.refused(desk, "BadName", "read", name, "what")
        self.refused(desk, "Known", "read", "a", "bench 3 1")
        self.refused(desk, "Known", "read", "a", "what")
        for text, row in (("", 0), ("what", 0), ("bench 3 9", 0), ("bench 3 1\nwhat", 1), ("bench 3 1\nlay\ndrop a", 2),
                          ("bench 3 1\n", 1)):
            self.refused(desk, "NoPage", "read", "b", text, row=row)
        self.assertEqual(desk.names(), ["a"])


class Copying(Refusing):
    def test_a_twin(self):
        desk = desk_with("a")
        desk.deed("a", ("lay",))
        desk.back("a")
        self.assertIsNone(desk.copy_one("a", "b"))
        self.assertIsNone(desk.copy_one(other="c", name="b"))
        self.assertEqual(desk.names(), ["a", "b", "c"])
        before = desk.page("a")
        desk.again("b")
        self.assertEqual(desk.page("b"), before + "\nlay")
        self.assertEqual((desk.page("a"), desk.page("c")), (before, before))
        desk.deed("c", ("input", "more"))
        desk.again("a")
        self.assertEqual((desk.page("a"), desk.page("b")), (before + "\nlay", before + "\nlay"))
        self.assertEqual(desk.page("c"), before + "\ninput more")

    def test_refused(self):
        desk = desk_with("a", "b")
        for name in ("nobody", "A", ""):
            for other in ("c", "a", "A", ""):
                self.refused(desk, "NoBench", "copy_one", name, other)
        for other in NO_NAMES:
            self.refused(desk, "BadName", "copy_one", "a", other)
        self.refused(desk, "Known", "copy_one", "a", "b")
        self.refused(desk, "Known", "copy_one", "a", "a")


class Benches(Refusing):
    def test_close(self):
        desk = desk_with("a", "b", "c")
        self.assertIsNone(desk.close("b"))
        self.assertEqual((desk.names(), len(desk)), (["a", "c"], 2))
        desk.open_one("b", 3)
        self.assertEqual(desk.names(), ["a", "c", "b"])
        self.assertEqual(desk.page("b"), "bench 3 3")
        self.assertIsNone(desk.close(name="a"))
        self.assertEqual(desk.names(), ["c", "b"])

    def test_deeds_and_the_way_back(self):
        desk = desk_with("a")
        self.assertIsNone(desk.deed("a", ("lay",)))
        self.assertEqual(desk.deed(row=("cycle", "1"), name="a"), "0")
        self.assertEqual(desk.deed("a", ("cycle", "1")), "1")
        self.assertIsNone(desk.back("a"))
        self.assertEqual(desk.view("a").held(), "1")
        self.assertIsNone(desk.again(name="a"))
        self.assertEqual(desk.view("a").held(), "0")
        self.assertIsNone(desk.back(name="a"))
        self.assertEqual(desk.page(name="a"), page(bench_with(*FLIP, ("lay",), ("cycle", "1"))))
        self.assertEqual(desk.view(name="a"), bench_with(*FLIP, ("lay",), ("cycle", "1")))

    def test_no_bench_first(self):
        desk = desk_with("a")
        for name in ("nobody", "", "A"):
            for method, handed in (("close", ()), ("view", ()), ("page", ()), ("back", ()), ("again", ()),
                                   ("deed", (("lay",),)), ("deed", (("input", "A"),)), ("deed", (("cycle", "x"),))):
                self.refused(desk, "NoBench", method, name, *handed)

    def test_what_the_bench_refuses(self):
        desk = desk_with("a")
        desk.open_one("b", 2)
        self.refused(desk, "Taken", "deed", "a", ("input", "go"))
        self.refused(desk, "NoThing", "deed", "a", ("drop", "nobody"), name="nobody")
        self.refused(desk, "Read", "deed", "a", ("drop", "go"), by="next")
        self.refused(desk, "NotLaid", "deed", "a", ("cycle", "1"))
        self.refused(desk, "NothingLeft", "again", "a")
        self.refused(desk, "NothingLeft", "back", "b")

    def test_what_is_done_in_one_is_not_seen_in_another(self):
        desk = desk_with("a", "b")
        before = everything(desk.view("b"))
        for deed in (("lay",), ("cycle", "1"), ("drop", "told"), ("peg", "go", 1)):
            desk.deed("a", deed)
            self.assertEqual(everything(desk.view("b")), before)
        desk.back("a")
        desk.close("a")
        self.assertEqual(everything(desk.view("b")), before)

    def test_views_are_twins(self):
        desk = desk_with("a")
        view = desk.view("a")
        self.assertIs(type(view), Bench)
        before = all_of(desk)
        view.lay()
        view.drop("told")
        for _ in range(3):
            view.back()
        self.assertEqual(all_of(desk), before)
        desk.deed("a", ("input", "more"))
        self.assertEqual(len(desk.view("a")), 5)
        self.assertEqual(len(view), 3)


class Lines(unittest.TestCase):
    def say(self, desk, *lines):
        """Each line is answered so; pairs (line, answer)."""
        for line, answer in lines:
            told = desk.say(line)
            self.assertEqual(told, answer, line)
            self.assertIs(type(told), str)

    def test_each_form(self):
        desk = Desk()
        self.say(
            desk,
            ("names", "none"),
            ("open b 8 3", "opened"),
            ("open a 14 6", "opened"),
            ("names", "b a"),
            ("things b", "none"),
            ("held b", "none"),
            ("delay b", "none"),
            ("image b", "none"),
            ("least b", "0"),
            ("in b input go", "done"),
            ("in b register now 0 now", "done"),
            ("in b gate next 0110 go now", "done"),
            ("in b gate one 1", "done"),
            ("in b wire now 0 next", "done"),
            ("in b output told now", "done"),
            ("things b", "in go; reg now 0 next; gate next 0110 go now; gate one 1; out told now"),
            ("least b", "3"),
            ("held b", "none"),
            ("delay b", "none"),
            ("image b", "none"),
            ("in b drop one", "done"),
            ("in b peg go 0", "done"),
            ("in b peg next 1", "done"),
            ("in b peg now 2", "done"),
            ("in b peg told 3", "done"),
            ("in b free told", "done"),
            ("in b peg told 3", "done"),
            ("in b lay", "done"),
            ("held b", "0"),
            ("delay b", "4"),
            ("in b cycle 1", "0"),
            ("in b cycle 0", "1"),
            ("held b", "1"),
            ("in b bits next 1001", "done"),
            ("back b", "back"),
            ("back b", "back"),
            ("again b", "again"),
            ("copy b c", "copied"),
            ("names", "b a c"),
            ("in c cycle 1", "1"),
            ("held c", "0"),
            ("held b", "1"),
            ("close b", "closed"),
            ("names", "a c"),
            ("close a", "closed"),
            ("close c", "closed"),
            ("names", "none"),
        )

    def test_image(self):
        desk = desk_with("a", deeds=FLIP + (("lay",),))
        self.assertEqual(desk.say("image a").split(" "), desk.view("a").image())
        self.assertEqual(desk.say("delay a"), str(desk.view("a").delay()[0]))

    def test_none_for_what_there_is_not(self):
        desk = Desk()
        self.say(
            desk,
            ("open a 3 1", "opened"),
            ("in a lay", "done"),
            ("held a", "none"),
            ("things a", "none"),
            ("delay a", "0"),
            ("image a", " ".join(["0" * 25] * 3)),
            ("in a cycle -", "none"),
            ("least a", "0"),
            ("in a input p", "done"),
            ("in a input q", "done"),
            ("in a input r", "done"),
            ("least a", "0"),
            ("in a lay", "done"),
            ("in a cycle 010", "none"),
            ("in a input s", "done"),
            ("least a", "none"),
            ("in a lay", "no NoRoom"),
            ("things a", "in p; in q; in r; in s"),
        )

    def test_each_refusal(self):
        desk = desk_with("a", deeds=FLIP)
        desk.open_one("full", 14)
        for name in "abcd":
            desk.deed("full", ("input", name))
        desk.open_one("small", 1, 1)
        desk.deed("small", ("input", "p"))
        desk.deed("small", ("output", "q", "p"))
        desk.copy_one("a", "laid")
        desk.deed("laid", ("lay",))
        desk.deed("laid", ("peg", "go", 1))
        desk.deed("laid", ("cycle", "1"))
        desk.back("laid")
        before = all_of(desk)
        for line, refusal in (
            ("open A 3 3", "BadName"), ("open abcdefghi 0 0", "BadName"), ("open - 3 3", "BadName"),
            ("open a 3 3", "Known"), ("open a 0 0", "Known"), ("open b 0 3", "BadSize"), ("open b 15 3", "BadSize"),
            ("open b 3 0", "BadSize"), ("open b 3 7", "BadSize"), ("open b 99 99", "BadSize"),
            ("copy nobody b", "NoBench"), ("copy A b", "NoBench"), ("copy nobody A", "NoBench"), ("copy a A", "BadName"),
            ("copy a full", "Known"), ("copy a a", "Known"), ("close nobody", "NoBench"), ("close 7", "NoBench"),
            ("back nobody", "NoBench"), ("again nobody", "NoBench"), ("again a", "NothingLeft"),
            ("in nobody lay", "NoBench"), ("in N cycle 0", "NoBench"), ("things nobody", "NoBench"),
            ("held nobody", "NoBench"), ("least nobody", "NoBench"), ("delay nobody", "NoBench"),
            ("image nobody", "NoBench"), ("image -", "NoBench"),
            ("in a input go", "Taken"), ("in full input e", "TooBig"), ("in a gate g 01", "BadBits"),
            ("in a gate g 01 nobody", "NoThing"), ("in a register r 0 told", "NoThing"), ("in a output o o", "NoThing"),
            ("in a bits go 0", "NoThing"), ("in a bits now 01", "BadBits"), ("in a wire nobody 99 go", "NoThing"),
            ("in a wire go 0 go", "NoPin"), ("in a wire next 0 next", "Ring"), ("in a drop go", "Read"),
            ("in a peg go 8", "NoSlot"), ("in laid peg go 2", "Pegged"), ("in a free go", "NotPegged"),
            ("in small lay", "NoRoom"), ("in a cycle 1", "NotLaid"), ("in laid cycle 11", "BadRow"),
            ("in laid cycle -", "BadRow"),
        ):
            self.say(desk, (line, "no " + refusal))
            self.assertEqual(all_of(desk), before, line)
        self.say(desk, ("again laid", "again"), ("again laid", "no NothingLeft"))
        empty = Desk()
        self.say(empty, ("open e 3 3", "opened"), ("back e", "no NothingLeft"))

    def test_lines_of_no_form(self):
        desk = desk_with("a", deeds=FLIP + (("lay",),))
        before = all_of(desk)
        for line in (
            "", " ", "  ", "\n", "what", "what a", "names ", " names", "names a", "Names", "names\n", "names  ",
            "open", "open b", "open b 3", "open b 3 3 3", "open b 03 3", "open b 3 03", "open b x 3", "open b 3 x",
            "open b -3 3", "open b 3 +3", "open b 100 3", "open b 3 100", "open  b 3 3", "open b  3 3", "open b 3 3 ",
            " open b 3 3", "open A 3", "open a x 3", "open 3 3", "open b 3  ", "open b 00 3", "open b 1.0 3",
            "copy", "copy a", "copy a b c", "copy a  b", "copy  a b", "copy a ", "copy a b ",
            "close", "close ", "close a b", "close  a", " close a", "close a ",
            "back", "back ", "back a b", "back  a", "again", "again a b", "again a ",
            "in", "in a", "in a ", "in a what", "in a lay ", "in  a lay", "in a  lay", " in a lay", "in lay", "in a input",
            "in a input A", "in a input abcdefghi", "in a input b c", "in a cycle", "in a cycle 2", "in a cycle 00000",
            "in a peg go 01", "in a peg go -1", "in a wire next 00 go", "in a wire next -1 go", "in nobody what",
            "in a gate g", "in a gate g 1 a b c d", "in a register r 00 r", "in a bits g 000000000", "in a entry b",
            "in a back", "in a bench 3 3", "in a in a lay", "in a lay lay",
            "things", "things ", "things a a", "held", "held a a", "least", "least a a", "delay", "delay a a",
            "image", "image a a", "image  a", "view a", "page a", "deed a lay", "read b bench", "len", "pegs a",
            "netlist a", "sheet a", "OPEN b 3 3", "In a lay", "opened",
        ):
            self.say(desk, (line, "no line"))
            self.assertEqual(all_of(desk), before, line)

    def test_the_same_as_by_methods(self):
        by_line, by_method = Desk(), Desk()
        by_line.say("open a 8 3")
        by_method.open_one("a", 8)
        for deed in FLIP + (("lay",), ("cycle", "1"), ("bits", "next", "1001"), ("lay",)):
            by_method.deed("a", deed)
        for row in by_method.page("a").split("\n")[1:]:
            self.assertNotIn("no", by_line.say(line="in a " + row).split(" "))
        self.assertEqual(all_of(by_line), all_of(by_method))

    def test_twelve_things_in_fourteen_slots(self):
        desk = Desk()
        desk.read("a", page(bench_of_netlist(big_netlist(1, 2, 6, 2, 2), 14, 6)))
        for line in ("least a", "in a lay", "held a", "in a cycle 10", "image a", "delay a", "things a", "copy a b",
                     "back a", "back a", "again a", "again a", "in a cycle 01", "names"):
            before = time.perf_counter()
            self.assertNotEqual(desk.say(line).split(" ")[0], "no", line)
            self.assertLess(time.perf_counter() - before, 1)


if __name__ == "__main__":
    unittest.main()
