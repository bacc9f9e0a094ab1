"""[22] and the interface's section tracklay/rows.py."""

import itertools
import random
import re
import unittest

from tracklay.errors import LayError, NoDeed
from tracklay.rows import deed_of, deed_text

WRITTEN = (
    (("input", "a"), "input a"),
    (("input", "abcdefgh"), "input abcdefgh"),
    (("gate", "g", "1", ()), "gate g 1"),
    (("gate", "g", "01", ("a",)), "gate g 01 a"),
    (("gate", "g", "0110", ("a", "b")), "gate g 0110 a b"),
    (("gate", "zzzzzzzz", "01101001", ("a", "a", "abcdefgh")), "gate zzzzzzzz 01101001 a a abcdefgh"),
    (("gate", "g", "010", ("a", "g")), "gate g 010 a g"),
    (("gate", "gate", "11111111", ()), "gate gate 11111111"),
    (("register", "r", "0", "r"), "register r 0 r"),
    (("register", "lay", "1", "cycle"), "register lay 1 cycle"),
    (("output", "z", "a"), "output z a"),
    (("bits", "g", "0"), "bits g 0"),
    (("bits", "g", "10010110"), "bits g 10010110"),
    (("bits", "bits", "111"), "bits bits 111"),
    (("wire", "g", 0, "a"), "wire g 0 a"),
    (("wire", "g", 2, "a"), "wire g 2 a"),
    (("wire", "g", 10, "a"), "wire g 10 a"),
    (("wire", "g", 99, "a"), "wire g 99 a"),
    (("drop", "a"), "drop a"),
    (("peg", "a", 0), "peg a 0"),
    (("peg", "a", 13), "peg a 13"),
    (("peg", "a", 99), "peg a 99"),
    (("free", "a"), "free a"),
    (("lay",), "lay"),
    (("cycle", ""), "cycle -"),
    (("cycle", "0"), "cycle 0"),
    (("cycle", "1011"), "cycle 1011"),
)

NOT_WRITTEN = (
    "", " ", "\n", "-", "a", "0", "lie", "Lay", "LAY", "layer", "inputs a", "entry a", "keeper r 0 r", "unpeg a",
    "reg r 0 r", "in a", "out z a", "bench 3 3",
    "input", "input ", "input  a", " input a", "input a ", "input a b", "input A", "input a1", "input abcdefghi",
    "input a\n", "\ninput a", "input\na", "input -", "input a-b", "input 0", "input\ta",
    "gate", "gate g", "gate g ", "gate g 2", "gate g -", "gate g a", "gate g 000000000", "gate g 1 a b c d",
    "gate g 1 A", "gate g 1 abcdefghi", "gate g 1 ", "gate g  1", "gate g 1  a", "gate g 1 a ", "gate g01 a",
    "gate 1 g", "gate g 1 0", "gate G 1", "gate g 01 a\n", "gate g 012", "gate g 1 a b c ",
    "register", "register r", "register r 0", "register r 00 a", "register r 2 a", "register r  a", "register r 0 a b",
    "register r 0 A", "register R 0 a", "register r - a", "register r a 0", "register r 0 a ", "register r 01 a",
    "register r 0 abcdefghi", "register 0 r a",
    "output", "output z", "output z ", "output z a b", "output Z a", "output z A", "output z 0", "output z  a",
    "output z 0 a", "output abcdefghi a", "output z abcdefghi",
    "bits", "bits g", "bits g ", "bits g 2", "bits g 000000000", "bits g 0 0", "bits G 0", "bits g -", "bits g a",
    "bits g  0", "bits g 0 ", "bits 0 g",
    "wire", "wire g", "wire g 0", "wire g a", "wire g a 0", "wire g 00 a", "wire g 01 a", "wire g 100 a", "wire g -1 a",
    "wire g +1 a", "wire g 1.0 a", "wire g 0 A", "wire G 0 a", "wire g 0 a b", "wire g  0 a", "wire g 0 a ",
    "wire g 000 a", "wire g x a", "wire g 0 0", "wire g - a", "wire g 1_0 a",
    "drop", "drop ", "drop A", "drop a b", "drop 0", "drop abcdefghi", "drop a ",
    "peg", "peg a", "peg a ", "peg a b", "peg a 00", "peg a 01", "peg a 100", "peg a -1", "peg a 0 0", "peg A 0",
    "peg a +1", "peg  a 0", "peg a 0 ", "peg 0 a", "peg a 0x", "peg a 1e", "peg a 007",
    "free", "free ", "free A", "free a b", "free a 0", "free abcdefghi",
    "lay ", " lay", "lay a", "lay lay", "lay 0", "lay\n", "lay\nlay",
    "cycle", "cycle ", "cycle  0", "cycle 2", "cycle 00000", "cycle 0 0", "cycle a", "cycle --", "cycle -0", "cycle 0-",
    "cycle - ", "cycle 0 ", "cycle 01 1", "cycle _",
)


class DeedText(unittest.TestCase):
    def test_written(self):
        for deed, text in WRITTEN:
            self.assertEqual(deed_text(deed), text)
            self.assertEqual(deed_text(deed=deed), text)
            self.assertIs(type(deed_text(deed)), str)


class DeedOf(unittest.TestCase):
    def test_read(self):
        for deed, text in WRITTEN:
            told = deed_of(text)
            self.assertEqual(told, deed)
            self.assertEqual(repr(told), repr(deed))
            self.assertEqual(deed_of(text=text), deed)

    def test_numbers(self):
        for number in range(100):
            self.assertEqual(deed_of(f"peg a {number}"), ("peg", "a", number))
            self.assertIs(type(deed_of(f"wire g {number} a")[2]), int)

    def test_refused(self):
        for text in NOT_WRITTEN:
            with self.subTest(text), self.assertRaises(NoDeed) as caught:
                deed_of(text)
            self.assertIsInstance(caught.exception, LayError)

    def test_each_row_with_something_wrong(self):
        for deed, text in WRITTEN:
            wrongs = [" " + text, text + " ", text + "\n", "\n" + text, text.upper(), text + " a b c d", text + " 0 0 0"]
            if " " in text:
                wrongs += [text.replace(" ", between, 1) for between in ("  ", "\n", "", "-")]
            for wrong in wrongs:
                with self.subTest(wrong), self.assertRaises(NoDeed):
                    deed_of(wrong)

    def test_any_words(self):
        name, bits, number = "[a-z]{1,8}", "[01]{1,8}", "(?:0|[1-9][0-9]?)"
        form = re.compile("|".join([
            f"input {name}", f"gate {name} {bits}(?: {name}){{0,3}}", f"register {name} [01] {name}",
            f"output {name} {name}", f"bits {name} {bits}", f"wire {name} {number} {name}", f"drop {name}",
            f"peg {name} {number}", f"free {name}", "lay", "cycle (?:-|[01]{1,4})"]))
        words = ("a", "b", "abcdefghi", "A", "0", "1", "00", "01", "10", "12", "99", "100", "0000", "11111", "10101010",
                 "010101010", "-", "", "2", "lay")
        heads = ("input", "gate", "register", "output", "bits", "wire", "drop", "peg", "free", "lay", "cycle", "else", "")
        chance = random.Random(1)
        texts = [head + "".join(" " + word for word in rest) for head in heads for many in range(4)
                 for rest in itertools.product(words[:14] if many == 3 else words, repeat=many)]
        texts += [chance.choice(heads) + "".join(" " + chance.choice(words) for _ in range(chance.randrange(4, 7)))
                  for _ in range(3000)]
        read = 0
        for text in texts:
            try:
                told = deed_text(deed_of(text))
            except NoDeed:
                told = None
            self.assertEqual(told, text if form.fullmatch(text) else None)
            read += told is not None
        self.assertGreater(read, 100)


if __name__ == "__main__":
    unittest.main()
