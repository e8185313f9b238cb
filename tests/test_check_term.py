import sys
import unittest

from kernelstack.errors import TermError
from kernelstack.terms import check_term, size
from samples import NAT, NEXT, SAMPLES, TYPE, V0, broad, chain, depth_of


class Odd:
    """Something that is no tuple, though it has items."""

    def __getitem__(self, at):
        return ("var", 0)[at]

    def __len__(self):
        return 2


WRONG_NUMBERS = (-1, True, False, None, "1", 1.0, (1,), [1], b"1")
WRONG_NAMES = (None, 1, True, b"x", ("x",), ["x"])

WRONG = [
    (), [], None, 0, 1, True, "", "var", b"var", {}, Odd(), 1.5,
    ["var", 0], ["app", V0, V0],
    ("Var", 0), ("", 0), ("meta", 1, ()), ("name", "x"), ("hole",), ("arrow", V0, V0), ("number", 1), ("var ", 0),
    (b"var", 0), (0, "var"), (None, 0), (("var",), 0), (["var"], 0), ({}, 0), (True, 0),
    ("var",), ("var", 0, 0), ("sort",), ("sort", 0, 0), ("const",), ("const", "x", 0), ("rec",), ("rec", "nat"),
    ("rec", "nat", 1, 1), ("pi",), ("pi", "x", NAT), ("pi", "x", NAT, V0, V0), ("lam", "x", NAT),
    ("lam", "x", NAT, V0, V0), ("pi", NAT, V0), ("lam", NAT, V0), ("app",), ("app", V0), ("app", V0, V0, V0),
    ("let", "x", NAT, V0), ("let", "x", NAT, V0, V0, V0), ("let", NAT, V0, V0),
    ("sort", 13), ("sort", 10 ** 30), ("rec", "nat", 13), ("rec", 1, "nat"), ("const", 0),
]
WRONG += [(word, number) for word in ("var", "sort") for number in WRONG_NUMBERS]
WRONG += [("rec", "nat", number) for number in WRONG_NUMBERS]
WRONG += [("const", name) for name in WRONG_NAMES]
WRONG += [("rec", name, 1) for name in WRONG_NAMES]
WRONG += [(word, name, NAT, V0) for word in ("pi", "lam") for name in WRONG_NAMES]
WRONG += [("let", name, NAT, V0, V0) for name in WRONG_NAMES]

AROUND = (
    lambda one: ("pi", "x", one, V0),
    lambda one: ("pi", "x", NAT, one),
    lambda one: ("lam", "x", one, V0),
    lambda one: ("lam", "x", NAT, one),
    lambda one: ("app", one, V0),
    lambda one: ("app", NEXT, one),
    lambda one: ("let", "x", one, V0, V0),
    lambda one: ("let", "x", NAT, one, V0),
    lambda one: ("let", "x", NAT, V0, one),
)


class TestCheckTerm(unittest.TestCase):

    def refuse(self, value, told=""):
        """Raise a failure if a value is not refused with a TermError, or with one of another class."""
        with self.assertRaises(TermError, msg=told) as caught:
            check_term(value)
        self.assertIs(type(caught.exception), TermError)

    def test_returns_the_term(self):
        for term in SAMPLES:
            self.assertIs(check_term(term), term)

    def test_numbers_and_levels(self):
        for term in (("var", 0), ("var", 10 ** 30), ("sort", 0), ("sort", 12), ("rec", "nat", 0), ("rec", "nat", 12)):
            self.assertIs(check_term(term), term)

    def test_names_are_any_strings(self):
        for name in ("x", "_", "x'", "a.b", "#1", "Type"):
            for term in (("const", name), ("rec", name, 1), ("pi", name, NAT, V0), ("lam", name, NAT, V0),
                         ("let", name, NAT, V0, V0)):
                self.assertIs(check_term(term), term)

    def test_no_terms(self):
        for value in WRONG:
            self.refuse(value, repr(value))

    def test_no_terms_within_terms(self):
        for value in WRONG:
            for place, around in enumerate(AROUND):
                self.refuse(around(value), (place, repr(value)))

    def test_no_terms_deep_within_terms(self):
        for value in WRONG:
            for place, around in enumerate(AROUND):
                for _ in range(98):
                    value = around(value)
                self.refuse(value, place)

    def test_levels_deep_within_terms(self):
        for around in AROUND:
            good, bad = ("sort", 12), ("sort", 13)
            for _ in range(90):
                good, bad = around(good), around(bad)
            self.assertIs(check_term(good), good)
            self.refuse(bad)


class TestBounds(unittest.TestCase):

    def test_nodes(self):
        for many in (19999, 20000):
            term = broad(many)
            self.assertEqual(size(term), many)
            self.assertLess(depth_of(term), 30)
            self.assertIs(check_term(term), term)
        for many in (20001, 20002, 50000):
            self.assertEqual(size(broad(many)), many)
            with self.assertRaises(TermError):
                check_term(broad(many))

    def test_levels(self):
        self.assertEqual(depth_of(chain(100)), 100)
        for levels in (1, 99, 100):
            term = chain(levels)
            self.assertIs(check_term(term), term)
        for levels in (101, 102, 200):
            with self.assertRaises(TermError):
                check_term(chain(levels))

    def test_levels_in_each_place(self):
        for around in AROUND:
            term = TYPE
            for _ in range(99):
                term = around(term)
            self.assertEqual(depth_of(term), 100)
            self.assertIs(check_term(term), term)
            with self.assertRaises(TermError):
                check_term(around(term))

    def test_no_other_error_for_what_is_far_too_large(self):
        with self.assertRaises(TermError):
            check_term(chain(100000))
        doubled = V0
        for _ in range(90):
            doubled = ("app", doubled, doubled)
        with self.assertRaises(TermError):
            check_term(doubled)

    def test_wrong_values_in_what_is_far_too_large(self):
        # Values that are no terms, at the beginning or the end of what is refused for its size before it is met.
        for wrong in WRONG:
            doubled = wrong
            for _ in range(40):
                doubled = ("app", doubled, doubled)
            for term in (doubled, ("app", doubled, wrong), ("app", wrong, doubled), ("pi", "x", chain(200), wrong)):
                with self.assertRaises(TermError):
                    check_term(term)

    def test_no_function_is_called_for_each_node(self):
        # This holds the time that it takes without telling it in seconds.
        doubled = NAT
        for _ in range(13):
            doubled = ("app", doubled, doubled)
        self.assertEqual(size(doubled), 16383)
        rows = ("lam", "x", NAT, ("pi", "y", V0, ("let", "z", NAT, V0, ("app", V0, NAT))))
        mixed = rows
        for _ in range(10):
            mixed = ("app", mixed, mixed)
        for term, is_whole in ((doubled, True), (mixed, True), (("app", doubled, doubled), False)):
            found, many = calls_made(term)
            self.assertEqual(found, is_whole)
            self.assertLess(many, 150)


def calls_made(term):
    """Return (whether a term is one, how many functions of the package were called to find that)."""
    called = []

    def look(frame, event, _):
        if event == "call":
            called.append(frame)

    before = sys.getprofile()
    sys.setprofile(look)
    try:
        is_whole = check_term(term) is term
    except TermError:
        is_whole = False
    finally:
        sys.setprofile(before)
    return (is_whole, len(called))


if __name__ == "__main__":
    unittest.main()
