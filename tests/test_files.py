"""Files as bytes: written and read back, and refused with whatever is done to them."""

import inspect
import random
import unittest

from kernelstack import library
from kernelstack.codec import digest, name_bytes, number_bytes, pack_declarations
from kernelstack.errors import FileFault, TextError
from kernelstack.library import Library, ObjectFile, leading, read_object, split_imports
from samples import NAT, PROP, TYPE, V0
from stock import ROWS, lam, pi

SMALL = (
    ("axiom", "a", NAT),
    ("def", "f", pi(("x", NAT), NAT), lam(("x", NAT), V0)),
    ("data", "d", (("A", TYPE),), (), 1, (("c", (), ()), ("e", (("x", V0),), ()))),
)
FILE = ObjectFile("some file", (("one", 5), ("two", 2147483646)), SMALL, (("a", 0), ("f", 0), ("e", 1)), ("f",))


def with_digest(data):
    """Return bytes with the right digest behind them."""
    number = digest(data)
    return tuple(data) + tuple(number >> place & 255 for place in (24, 16, 8, 0))


class TestObjects(unittest.TestCase):
    def test_interface(self):
        for name, told in (
            ("ObjectFile", "(name, imports, declarations, implicits, theorems)"),
            ("read_object", "(data)"),
            ("split_imports", "(text)"),
            ("leading", "(kind)"),
            ("Library", "()"),
        ):
            self.assertEqual(str(inspect.signature(getattr(library, name))), told)
        for name, told in (("needed", "(self, name)"), ("compile_file", "(self, name)"), ("load", "(self, name)")):
            self.assertEqual(str(inspect.signature(vars(Library)[name])), told)
        one = Library()
        self.assertEqual((one.texts, one.objects, one.checks), ({}, {}, 0))
        self.assertEqual((FILE.name, FILE.imports[0], FILE.implicits[2], FILE.theorems, FILE.declarations),
                         ("some file", ("one", 5), ("e", 1), ("f",), SMALL))
        self.assertEqual(FILE.shown(), (FILE.name, FILE.imports, SMALL, FILE.implicits, FILE.theorems))

    def test_bytes(self):
        told = [75, 79, 1, *name_bytes("some file"), 2, *name_bytes("one"), 5, *name_bytes("two")]
        told += [*number_bytes(2147483646), 3, *name_bytes("a"), 0, *name_bytes("f"), 0, *name_bytes("e"), 1]
        told += [1, *name_bytes("f"), *pack_declarations(SMALL)]
        self.assertEqual(FILE.packed(), with_digest(told))
        self.assertEqual(read_object(FILE.packed()).shown(), FILE.shown())

    def test_read_back(self):
        chance = random.Random(1)
        for number in range(40):
            rows = tuple(chance.sample(ROWS, chance.randrange(6)))
            names = [f"n{place}" for place in range(chance.randrange(4))]
            one = ObjectFile(f"file{number}", tuple((name, chance.randrange(2**31)) for name in names), rows,
                             tuple((name, chance.randrange(200)) for name in names), tuple(names))
            self.assertEqual(read_object(one.packed()).shown(), one.shown())
            self.assertEqual(read_object(one.packed()).packed(), one.packed())

    def test_what_cannot_be_kept(self):
        for one in (
            ObjectFile("x" * 61, (), (), (), ()),
            ObjectFile("a-b", (), (), (), ()),
            ObjectFile("a", (("b", 2**35),), (), (), ()),
            ObjectFile("a", (), (), (("f", 2**35),), ()),
            ObjectFile("a", (), (), (), ("a%",)),
            ObjectFile("a", (), (("axiom", "x", ("const", "a-b")),), (), ()),
        ):
            with self.assertRaises(FileFault):
                one.packed()
        ObjectFile("x" * 60, (("b", 2**35 - 1),), (), (), ()).packed()

    def refused(self, data):
        """Return whether bytes are refused, and test that they are what they are read as if they are not."""
        try:
            found = read_object(data)
        except FileFault:
            return True
        self.assertEqual(found.packed(), tuple(data))
        return False

    def test_what_is_no_file(self):
        data = FILE.packed()
        for one in ((), data[:3], data[:7], (75, 79, 1, 0), (75, 79, 2) + data[3:], (0,) + data, data + (0,),
                    (75, 78) + data[2:], data[:-1] + (data[-1] ^ 1,), data[4:]):
            self.assertTrue(self.refused(one))
        self.assertTrue(self.refused(with_digest((75, 79, 1))))
        self.assertTrue(self.refused(with_digest((75, 79, 1, 0, 0, 0, 0, 0))))
        self.assertFalse(self.refused(with_digest((75, 79, 1, 0, 0, 0, 0, 0, 0))))

    def test_each_byte_changed(self):
        data = FILE.packed()
        told = {True: 0, False: 0}
        for place in range(len(data)):
            for value in {0, 1, 127, 128, 255, (data[place] + 1) % 256, (data[place] + 255) % 256} - {data[place]}:
                one = data[:place] + (value,) + data[place + 1:]
                self.assertTrue(self.refused(one))
                if place < len(data) - 4:
                    told[self.refused(with_digest(one[:-4]))] += 1
            self.assertTrue(self.refused(data[:place] + data[place + 1:]))
            self.assertTrue(self.refused(data[:place] + (0,) + data[place:]))
            if place < len(data) - 4:
                told[self.refused(with_digest(data[:place] + data[place + 1:-4]))] += 1
                told[self.refused(with_digest(data[:place] + (1,) + data[place:-4]))] += 1
        self.assertGreater(min(told.values()), 30, told)

    def test_leading(self):
        self.assertEqual(leading(NAT), 0)
        self.assertEqual(leading(pi(("a", TYPE), ("b", V0), NAT)), 2)
        self.assertEqual(leading(lam(("a", TYPE), pi(("b", V0), NAT))), 0)
        self.assertEqual(leading(("let", "x", TYPE, NAT, pi(("a", V0), PROP))), 0)


class TestImports(unittest.TestCase):
    def test_imports(self):
        for text, names in (
            ("", ()),
            ("axiom a : Prop;", ()),
            ("import a;", ("a",)),
            ("import a; import b;\naxiom x : Prop;", ("a", "b")),
            ("\n\nimport a;\n  import   b  ;\n\naxiom x : Prop; import c;", ("a", "b")),
            ("-- first\nimport a; -- then\nimport b;", ("a", "b")),
            ("imports a;", ()),
            ("import;", ()),
        ):
            found, rest = split_imports(text)
            self.assertEqual(tuple(found), names, text)
            self.assertTrue(text.endswith(rest), text)
            self.assertEqual("import a" in rest or "import b" in rest, False, text)

    def test_what_does_not_end(self):
        for text in ("import a", "import a\naxiom x : Prop;", "import ;", "import  ;", "import a; import b",
                     "import a; import a;", "import a; import b; import  a ;"):
            with self.assertRaises(TextError, msg=text):
                split_imports(text)

    def test_twenty(self):
        lines = [f"import f{number};\n" for number in range(21)]
        self.assertEqual(len(split_imports("".join(lines[:20]))[0]), 20)
        with self.assertRaises(TextError):
            split_imports("".join(lines))


if __name__ == "__main__":
    unittest.main()
