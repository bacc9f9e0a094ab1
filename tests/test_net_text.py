"""`net_text` and `net_of`."""

import re
import unittest

from tests import samples
from tracklay.errors import NoNet
from tracklay.nets import net_of, net_text

NAME = "[a-z]{1,8}"
FORMS = (
    (0, f"in {NAME}"),
    (1, f"gate {NAME} [01]{{1,8}}( {NAME}){{0,3}}"),
    (1, f"reg {NAME} [01]{{1,8}} {NAME}"),
    (2, f"out {NAME} {NAME}"),
)
ROWS = samples.MIXED_TEXT.split("\n")


def first_wrong(text):
    """The number of the first wrong row by the forms, None where there is none."""
    last = 0
    for number, row in enumerate(text.split("\n") if text else []):
        ranks = [rank for rank, form in FORMS if re.fullmatch(form, row)]
        if not ranks or ranks[0] < last:
            return number
        last = ranks[0]
    return None


class NetText(unittest.TestCase):
    def test_ordinary(self):
        self.assertEqual(net_text(samples.MIXED), samples.MIXED_TEXT)
        self.assertEqual(net_text(netlist=samples.MIXED), samples.MIXED_TEXT)

    def test_empty(self):
        self.assertEqual(net_text(()), "")

    def test_each_kind(self):
        self.assertEqual(net_text((("in", "a", "", ()),)), "in a")
        self.assertEqual(net_text((("gate", "g", "0", ()),)), "gate g 0")
        self.assertEqual(net_text((("gate", "g", "01101001", ("c", "a", "b")),)), "gate g 01101001 c a b")
        self.assertEqual(net_text((("gate", "g", "0110", ("a", "a")),)), "gate g 0110 a a")
        self.assertEqual(net_text((("reg", "r", "1", ("r",)),)), "reg r 1 r")
        self.assertEqual(net_text((("out", "z", "", ("a",)),)), "out z a")

    def test_read_back(self):
        self.assertEqual(net_of(samples.MIXED_TEXT), samples.MIXED)
        for seed in range(300):
            netlist = samples.some_netlist(seed)
            self.assertEqual(net_of(net_text(netlist)), netlist)
        for counts in ((4, 4, 0, 4), (0, 8, 0, 4), (0, 4, 4, 0)):
            self.assertEqual(net_of(net_text(samples.sized(*counts))), samples.sized(*counts))


class NetOf(unittest.TestCase):
    def wrong(self, text, row):
        with self.subTest(text), self.assertRaises(NoNet) as caught:
            net_of(text)
        self.assertEqual(caught.exception.row, row)
        self.assertIs(type(caught.exception.row), int)

    def check(self, text):
        """The text read, or refused, as the forms let."""
        row = first_wrong(text)
        if row is None:
            self.assertEqual(net_text(net_of(text)), text)
        else:
            self.wrong(text, row)

    def test_empty(self):
        self.assertEqual(net_of(""), ())
        self.assertEqual(net_of(text=""), ())

    def test_kinds_of_values(self):
        told = net_of("in a\ngate g 01 a")
        self.assertEqual(told, (("in", "a", "", ()), ("gate", "g", "01", ("a",))))
        self.assertIs(type(told), tuple)
        self.assertEqual({type(thing) for thing in told}, {tuple})
        self.assertEqual({type(thing[3]) for thing in told}, {tuple})

    def test_things_need_not_fit_one_another(self):
        self.assertEqual(net_of("out z a"), (("out", "z", "", ("a",)),))
        self.assertEqual(net_of("in a\nin a"), (("in", "a", "", ()), ("in", "a", "", ())))
        self.assertEqual(net_of("gate g 011"), (("gate", "g", "011", ()),))
        self.assertEqual(net_of("gate g 0 a b c"), (("gate", "g", "0", ("a", "b", "c")),))
        self.assertEqual(net_of("gate g 01 g"), (("gate", "g", "01", ("g",)),))
        self.assertEqual(net_of("reg r 01101001 n"), (("reg", "r", "01101001", ("n",)),))

    def test_more_things_than_a_good_netlist_has(self):
        many = "\n".join(["in a"] * 5 + ["gate g 1"] * 9 + ["reg r 0 r"] * 5 + ["out z a"] * 5)
        self.assertEqual(len(net_of(many)), 24)
        self.assertEqual(net_text(net_of(many)), many)

    def test_names_like_kinds(self):
        self.assertEqual(net_of("in in\ngate gate 10 in\nout out gate"),
                         (("in", "in", "", ()), ("gate", "gate", "10", ("in",)), ("out", "out", "", ("gate",))))

    def test_row_ends_and_empty_rows(self):
        self.wrong("\n", 0)
        self.wrong("\nin a", 0)
        self.wrong("in a\n", 1)
        self.wrong("in a\n\nin b", 1)
        self.wrong("in a\nin b\n\n", 2)
        self.wrong(samples.MIXED_TEXT + "\n", len(ROWS))

    def test_other_row_ends(self):
        for sign in ("\r", "\r\n", "\x0b", "\x0c", "\x1c", "\x85", "\u2028"):
            self.wrong("in a" + sign + "in b", 0)

    def test_blanks(self):
        for text in (" ", "  ", " in a", "in a ", "in  a", "in\ta", "in\u00a0a", "in", "in ", "gate g  1",
                     "gate g 1 ", "gate g 01  a", "out z a ", "reg r 1 a "):
            self.wrong(text, 0)

    def test_words(self):
        for text in ("in", "in a b", "in a 0", "in a 01 b", "gate", "gate g", "gate g a", "gate g a 01",
                     "gate g 01 a b c d", "reg", "reg r", "reg r 0", "reg r a", "reg r 0 a b", "reg r a 0", "out",
                     "out z", "out z a b", "out z 0 a", "out z 0", "gate g 01 0"):
            self.wrong(text, 0)

    def test_kinds(self):
        for text in ("input a", "IN a", "In a", "register r 0 a", "output z a", "i a", "inn a", "a in", "gat g 1"):
            self.wrong(text, 0)

    def test_bits(self):
        for many in range(1, 9):
            for kind in ("gate", "reg"):
                bits = "01101001"[:many]
                self.assertEqual(net_of(f"{kind} g {bits} a"), ((kind, "g", bits, ("a",)),))
        for bits in ("", "011010011", "2", "012", "a", "-", "0-", "\u0661"):
            self.wrong(f"gate g {bits}", 0)
            self.wrong(f"gate g {bits} a", 0)
            self.wrong(f"reg r {bits} a", 0)

    def test_names(self):
        self.assertEqual(net_of("in abcdefgh\nout zyxwvuts abcdefgh"),
                         (("in", "abcdefgh", "", ()), ("out", "zyxwvuts", "", ("abcdefgh",))))
        for name in ("abcdefghi", "A", "a1", "a_", "a-b", "\u00e4", "{", "`"):
            for text in (f"in {name}", f"gate {name} 1", f"gate g 01 {name}", f"gate g 01101001 a b {name}",
                         f"reg {name} 1 a", f"reg r 1 {name}", f"out {name} a", f"out z {name}"):
                self.wrong(text, 0)

    def test_kinds_out_of_order(self):
        self.wrong("gate g 1\nin a", 1)
        self.wrong("reg r 0 r\nin a", 1)
        self.wrong("out z a\nin a", 1)
        self.wrong("out z a\ngate a 1", 1)
        self.wrong("in a\nout z a\nreg r 0 a", 2)
        self.assertEqual(len(net_of("reg r 0 g\ngate g 10 r\nreg s 0 r")), 3)

    def test_the_first_wrong_row_is_told(self):
        self.wrong("in a\nout z a\nin b\nin C", 2)
        self.wrong("in a\nin B\nout z a\nin b", 1)
        self.wrong("in a\nin b\nin", 2)

    def test_rows_left_out_doubled_and_exchanged(self):
        for at in range(len(ROWS)):
            self.check("\n".join(ROWS[:at] + ROWS[at + 1:]))
            self.check("\n".join(ROWS[:at] + ROWS[at:at + 1] + ROWS[at:]))
            for other in range(at):
                rows = list(ROWS)
                rows[at], rows[other] = rows[other], rows[at]
                self.check("\n".join(rows))

    def test_words_left_out_doubled_and_put_in(self):
        for at, row in enumerate(ROWS):
            words = row.split(" ")
            for word in range(len(words) + 1):
                spoilt = [words[:word] + words[word + 1:], words[:word] + words[word:word + 1] + words[word:]]
                spoilt += [words[:word] + [more] + words[word:] for more in ("", "a", "0", "in", "gate", "out")]
                for row_words in spoilt:
                    self.check("\n".join(ROWS[:at] + [" ".join(row_words)] + ROWS[at + 1:]))

    def test_signs_left_out_and_put_in(self):
        text = samples.MIXED_TEXT
        for at in range(len(text) + 1):
            self.check(text[:at] + text[at + 1:])
            for sign in " \n01aZ~":
                self.check(text[:at] + sign + text[at:])
                self.check(text[:at] + sign + text[at + 1:])


if __name__ == "__main__":
    unittest.main()
