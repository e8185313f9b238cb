import inspect
import unittest

from kernelstack import signature as module
from kernelstack.checker import Checker
from kernelstack.data import constructor_kind, data_kind
from kernelstack.errors import NameFault
from kernelstack.signature import WORDS, Signature, is_good_name
from samples import NAT, NEXT, TYPE, ZERO
from stock import ROWS, stock, to
from test_data import NAT_DATA


class TestNames(unittest.TestCase):
    def test_good_names(self):
        for name in ("a", "Z", "_", "_a", "a1", "a'", "a.b", "x''", "A_0", "props", "Prop'", "ends", "x" * 40):
            self.assertIs(is_good_name(name), True, name)

    def test_bad_names(self):
        for name in (
            "",
            " ",
            "1",
            "1a",
            "'",
            "'a",
            ".",
            ".a",
            "a b",
            "a-b",
            "a#",
            "#1",
            "a\n",
            "\na",
            "x" * 41,
            "\u00e9",
            "a\u00e9",
            "a\u0661",
            "a,",
        ):
            self.assertIs(is_good_name(name), False, name)

    def test_words(self):
        self.assertEqual(
            WORDS,
            (
                "Prop",
                "Type",
                "fun",
                "forall",
                "let",
                "in",
                "axiom",
                "def",
                "theorem",
                "data",
                "end",
                "rec",
                "by",
                "check",
                "eval",
            ),
        )
        for word in WORDS:
            self.assertIs(is_good_name(word), False, word)
            self.assertIs(is_good_name(word + "1"), True, word)


class TestSignature(unittest.TestCase):
    def test_interface(self):
        for name, told in {
            "copied": "(self)",
            "kind_of": "(self, name)",
            "value_of": "(self, name)",
            "add_axiom": "(self, name, kind)",
            "shown": "(self)",
        }.items():
            self.assertEqual(str(inspect.signature(vars(Signature)[name])), told)
        self.assertEqual(str(inspect.signature(Signature)), "()")
        self.assertEqual(module.is_good_name.__module__, "kernelstack.signature")

    def test_is_empty_first(self):
        one = Signature()
        self.assertEqual((one.kinds, one.bodies, one.data, one.owners, one.order), ({}, {}, {}, {}, []))
        self.assertEqual(one.shown(), ())

    def test_axioms(self):
        one = Signature()
        self.assertIsNone(one.add_axiom("nat", TYPE))
        one.add_axiom("O", NAT)
        self.assertEqual(one.kind_of("O"), NAT)
        self.assertIsNone(one.value_of("O"))
        self.assertEqual(one.shown(), (("axiom", "nat", TYPE), ("axiom", "O", NAT)))
        for name in ("nat", "O", "Prop", "1", "", "x" * 41):
            with self.assertRaises(NameFault):
                one.add_axiom(name, TYPE)
        self.assertEqual(one.kinds, {"nat": TYPE, "O": NAT})
        self.assertEqual(len(one.order), 2)
        one.add_axiom("x" * 40, TYPE)

    def test_unknown_names(self):
        with self.assertRaises(NameFault):
            Signature().kind_of("x")
        self.assertIsNone(Signature().value_of("x"))

    def test_fields_after_declarations(self):
        one = Signature()
        checker = Checker(one)
        checker.add(NAT_DATA.shown())
        checker.add(("axiom", "some", NAT))
        checker.add(("def", "one", NAT, ("app", NEXT, ZERO)))
        self.assertEqual(
            one.kinds,
            {"nat": data_kind(NAT_DATA), "O": NAT, "S": constructor_kind(NAT_DATA, 1), "some": NAT, "one": NAT},
        )
        self.assertEqual(one.bodies, {"one": ("app", NEXT, ZERO)})
        self.assertEqual(list(one.data), ["nat"])
        self.assertEqual(one.data["nat"].shown(), NAT_DATA.shown())
        self.assertEqual(one.owners, {"O": "nat", "S": "nat"})
        self.assertEqual(
            one.order, [NAT_DATA.shown(), ("axiom", "some", NAT), ("def", "one", NAT, ("app", NEXT, ZERO))]
        )
        self.assertEqual(one.shown(), tuple(one.order))
        self.assertEqual(one.value_of("one"), ("app", NEXT, ZERO))
        self.assertIsNone(one.value_of("O"))

    def test_copies_are_apart(self):
        one = stock()
        other = one.copied()
        self.assertEqual(other.shown(), ROWS)
        Checker(other).add(("def", "new", to(NAT, NAT), NEXT))
        Checker(other).add(("data", "unit", (), (), 1, (("tt", (), ()),)))
        self.assertEqual(one.shown(), ROWS)
        for name in ("new", "unit", "tt"):
            self.assertNotIn(name, one.kinds)
            self.assertIn(name, other.kinds)
        self.assertNotIn("new", one.bodies)
        self.assertNotIn("unit", one.data)
        self.assertNotIn("tt", one.owners)


if __name__ == "__main__":
    unittest.main()
