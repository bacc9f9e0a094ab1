"""The interface's section tracklay/errors.py."""

import unittest

from tracklay import errors

PLAIN = {
    "LayError": ("BadName", "Taken", "TooBig", "BadBits", "BadRow", "Pegged", "NotPegged", "NotLaid", "NothingLeft",
                 "Unlike", "NoDeed", "BadSize", "Known"),
    "Absent": ("NoPin", "NoSlot", "NoBench"),
}

# Class, base, field, what it is made with.
MADE = (
    ("Ring", "LayError", "ring", ("a", "b")),
    ("Ring", "LayError", "ring", ("a",)),
    ("Read", "LayError", "by", "a"),
    ("NoRoom", "LayError", "family", [(0, 0), (1, 2)]),
    ("NoRoom", "LayError", "family", []),
    ("BadTile", "LayError", "slot", 0),
    ("Short", "LayError", "slot", 13),
    ("Loose", "LayError", "slot", 7),
    ("NoNet", "LayError", "row", 0),
    ("NoPage", "LayError", "row", 12),
    ("NoThing", "Absent", "name", "a"),
    ("NoThing", "Absent", "name", ""),
)


class Bases(unittest.TestCase):
    def test_the_two_on_top(self):
        self.assertEqual(errors.LayError.__bases__, (ValueError,))
        self.assertEqual(errors.Absent.__bases__, (LookupError,))

    def test_each_stands_right_under_its_base(self):
        named = [(name, base) for base in PLAIN for name in PLAIN[base]]
        named += [(name, base) for name, base, field, worth in MADE]
        for name, base in named:
            with self.subTest(name):
                self.assertEqual(getattr(errors, name).__bases__, (getattr(errors, base),))

    def test_all_are_defined_there(self):
        named = {name for base in PLAIN for name in PLAIN[base]} | {row[0] for row in MADE} | set(PLAIN)
        self.assertEqual(len(named), 27)
        for name in named:
            with self.subTest(name):
                self.assertEqual(getattr(errors, name).__module__, "tracklay.errors")


class Made(unittest.TestCase):
    def test_plain_ones(self):
        for name in [name for base in PLAIN for name in PLAIN[base]] + list(PLAIN):
            with self.subTest(name):
                kind = getattr(errors, name)
                with self.assertRaises(kind):
                    raise kind()
                self.assertEqual(str(kind("why")), "why")

    def test_fields(self):
        for name, base, field, worth in MADE:
            with self.subTest(name, worth=worth):
                kind = getattr(errors, name)
                with self.assertRaises(getattr(errors, base)) as caught:
                    raise kind(worth)
                self.assertEqual(vars(caught.exception), {field: worth})
                self.assertIs(type(getattr(caught.exception, field)), type(worth))
                self.assertTrue(str(caught.exception))

    def test_made_by_the_field_name(self):
        for name, base, field, worth in MADE:
            with self.subTest(name, worth=worth):
                self.assertEqual(getattr(getattr(errors, name)(**{field: worth}), field), worth)

    def test_fields_are_needed(self):
        for name in {row[0] for row in MADE}:
            with self.subTest(name), self.assertRaises(TypeError):
                getattr(errors, name)()

    def test_a_handed_family_is_not_kept(self):
        handed = [(0, 0)]
        told = errors.NoRoom(handed)
        handed.append((1, 0))
        self.assertEqual(told.family, [(0, 0)])
        told.family.clear()
        self.assertEqual(handed, [(0, 0), (1, 0)])
        self.assertFalse(any(worth is handed for worth in told.args))


if __name__ == "__main__":
    unittest.main()
