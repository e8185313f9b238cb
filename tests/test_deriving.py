"""What follows from plain data: drawn data, the names and statements of what is derived, and what is refused."""

import inspect
import random
import unittest

from kernelstack import deriving
from kernelstack.checker import Checker, check_all
from kernelstack.deriving import (
    by_cases,
    case_rows,
    derived,
    differs,
    fields_of,
    keeps,
    made_of,
    plain_data,
    size_of,
    test_of,
    two_rows,
)
from kernelstack.errors import DataFault, NameFault
from kernelstack.running import Runner
from kernelstack.terms import same
from kernelstack.values import Reckoner
from naive_kernel import Naive
from samples import NAT, NEXT, PROP, TYPE, V0, V1, ZERO, applied, products
from stock import arrow, lam, num

EQ = ("data", "eq", (("A", TYPE), ("a", V0)), (("b", V1),), 0, (("refl", (), (V0,)),))
NUMBERS = ("data", "nat", (), (), 1, (("O", (), ()), ("S", (("n", NAT),), ())))
BOOLS = ("data", "bool", (), (), 1, (("true", (), ()), ("false_b", (), ())))
ADD = ("def", "add", arrow(NAT, arrow(NAT, NAT)), lam(("a", NAT), ("b", NAT), applied(
    ("rec", "nat", 1), lam(("x", NAT), NAT), V0, lam(("n", NAT), ("h", NAT), applied(NEXT, V0)), V1)))
FALSE = ("data", "false", (), (), 0, ())
TRUE_P = ("data", "true_p", (), (), 0, (("yes", (), ()),))
ROWS = (EQ, NUMBERS, BOOLS, ADD, FALSE, TRUE_P)
SIGNATURE = check_all(ROWS)
test_of.__test__ = False


def drawn_data(chance):
    """Return drawn plain data: one to four constructors of up to three fields, of other data and of itself."""
    rows = []
    for number in range(chance.randrange(1, 5)):
        fields = tuple((chance.choice(("x", "f", "n")), ("const", chance.choice(("nat", "bool", "new", "new"))))
                       for _ in range(chance.randrange(4)))
        rows.append((f"make{number}", fields, ()))
    return ("data", "new", (), (), 1, tuple(rows))


def drawn_thing(chance, signature, name, fuel):
    """Return (term, how many constructors of its own data it is made of), None if no such thing is found."""
    data = signature.data[name]
    rows = list(data.constructors)
    chance.shuffle(rows)
    if fuel <= 0:
        rows = sorted(rows, key=lambda row: len([kind for _, kind in row[1] if kind == ("const", name)]))
    for label, fields, _ in rows[:3]:
        term, many = ("const", label), 1
        for _, kind in fields:
            inner = drawn_thing(chance, signature, kind[1], fuel - 1) if fuel > -4 else None
            if inner is None:
                break
            term = ("app", term, inner[0])
            many += inner[1] if kind[1] == name else 0
        else:
            return (term, many)
    return None


class Deriving(unittest.TestCase):
    def accept(self, signature, naive, declaration, name, kind):
        """Test that a declaration has a name and a statement, binders' names and all, and is accepted."""
        self.assertEqual(declaration[:2], ("def", name))
        if kind[1] == "_":
            self.assertTrue(same(declaration[2], kind))
        else:
            self.assertEqual(declaration[2], kind)
        Checker(signature).add(declaration)
        naive.add(declaration)

    def refuse(self, fault, call, *arguments):
        """Test that a call is refused with just a fault."""
        with self.assertRaises(fault) as caught:
            call(*arguments)
        self.assertIs(type(caught.exception), fault)


def equation(kind, one, other):
    """Return the statement that two terms are equal."""
    return applied(("const", "eq"), kind, one, other)


def naive_of(rows):
    """Return a naive kernel of declarations."""
    naive = Naive()
    for row in rows:
        naive.add(row)
    return naive


class TestDeriving(Deriving):
    def test_interface(self):
        for name, told in (
            ("plain_data", "(signature, name)"),
            ("fields_of", "(data, number)"),
            ("case_rows", "(data, number, goal)"),
            ("by_cases", "(data, goal, level, bodies)"),
            ("size_of", "(signature, name)"),
            ("test_of", "(signature, name, number)"),
            ("made_of", "(data, number, start)"),
            ("two_rows", "(data, one, other)"),
            ("differs", "(signature, name, one, other)"),
            ("keeps", "(signature, name, number, place)"),
            ("derived", "(signature, name)"),
        ):
            self.assertEqual(str(inspect.signature(getattr(deriving, name))), told)

    def test_parts(self):
        tree = ("data", "tree", (), (), 1, (("leaf", (), ()), ("node", (("l", ("const", "tree")), ("n", NAT),
                                                                        ("r", ("const", "tree"))), ())))
        signature = check_all(ROWS + (tree,))
        data = plain_data(signature, "tree")
        own = ("const", "tree")
        self.assertEqual(data.shown(), tree)
        self.assertEqual(fields_of(data, 0), [])
        self.assertEqual(fields_of(data, 1), [own, NAT, own])
        self.assertEqual(case_rows(data, 0, NAT), [])
        self.assertEqual(case_rows(data, 1, PROP), [("x0", own), ("x1", NAT), ("x2", own), ("h0", PROP), ("h2", PROP)])
        self.assertEqual(made_of(data, 0, 5), ("const", "leaf"))
        self.assertEqual(made_of(data, 1, 2), applied(("const", "node"), ("var", 4), ("var", 3), ("var", 2)))
        self.assertEqual(two_rows(data, 1, 0), [("a0", own), ("a1", NAT), ("a2", own)])
        self.assertEqual(two_rows(data, 0, 1), [("b0", own), ("b1", NAT), ("b2", own)])
        self.assertEqual([name for name, _ in two_rows(data, 1, 1)], ["a0", "a1", "a2", "b0", "b1", "b2"])
        function = by_cases(data, NAT, 1, [ZERO, applied(("const", "add"), ("var", 3), V0)])
        self.assertTrue(same(Checker(signature).kind_term(function), arrow(own, NAT)))
        leaf = ("const", "leaf")
        self.assertEqual(Reckoner(signature).normal(applied(function, applied(("const", "node"), leaf, num(3), leaf))),
                         num(3))
        into = by_cases(data, PROP, 1, [("const", "false"), ("const", "true_p")])
        self.assertEqual(Reckoner(signature).normal(applied(into, leaf)), ("const", "false"))
        self.assertTrue(same(into[1][1][2], lam(("x", own), PROP)))

    def test_examples(self):
        signature = SIGNATURE.copied()
        naive = naive_of(ROWS)
        self.accept(signature, naive, size_of(SIGNATURE, "nat"), "nat.size", arrow(NAT, NAT))
        self.accept(signature, naive, test_of(SIGNATURE, "nat", 1), "nat.is.S", arrow(NAT, ("const", "bool")))
        next_a, next_b = applied(NEXT, V0), applied(NEXT, V1)
        self.accept(signature, naive, differs(SIGNATURE, "nat", 0, 1), "O.not.S",
                    products((("b0", NAT), ("e", equation(NAT, ZERO, next_a))), ("const", "false")))
        self.accept(signature, naive, differs(SIGNATURE, "nat", 1, 0), "S.not.O",
                    products((("a0", NAT), ("e", equation(NAT, next_a, ZERO))), ("const", "false")))
        self.accept(signature, naive, keeps(SIGNATURE, "nat", 1, 0), "S.keeps.0",
                    products((("a0", NAT), ("b0", NAT), ("e", equation(NAT, next_b, next_a))),
                             equation(NAT, ("var", 2), V1)))
        self.assertEqual([row[1] for row in derived(SIGNATURE, "nat")], ["O.not.S", "S.not.O", "S.keeps.0"])
        self.assertEqual([row[1] for row in derived(SIGNATURE, "bool")], ["true.not.false_b", "false_b.not.true"])

    def test_drawn_data(self):
        chance = random.Random(141)
        things = 0
        for _ in range(60):
            row = drawn_data(chance)
            signature = check_all(ROWS + (row,))
            naive = naive_of(ROWS + (row,))
            data = plain_data(signature, "new")
            before = signature.shown()
            own = ("const", "new")
            rows = row[5]
            self.accept(signature, naive, size_of(signature, "new"), "new.size", arrow(own, NAT))
            for number, (label, _, _) in enumerate(rows):
                self.accept(signature, naive, test_of(signature, "new", number), f"new.is.{label}",
                            arrow(own, ("const", "bool")))
            told = []
            for one, (label, fields, _) in enumerate(rows):
                for other, (second, inner, _) in enumerate(rows):
                    if one == other:
                        continue
                    names = [(f"a{place}", kind) for place, (_, kind) in enumerate(fields)]
                    names += [(f"b{place}", kind) for place, (_, kind) in enumerate(inner)]
                    left = applied(("const", label), *[("var", len(names) - 1 - place) for place in range(len(fields))])
                    right = applied(("const", second),
                                    *[("var", len(inner) - 1 - place) for place in range(len(inner))])
                    names.append(("e", equation(own, left, right)))
                    declaration = differs(signature, "new", one, other)
                    told.append(declaration)
                    self.accept(signature, naive, declaration, f"{label}.not.{second}",
                                products(names, ("const", "false")))
            for number, (label, fields, _) in enumerate(rows):
                many = len(fields)
                for place in range(many):
                    names = [(f"{end}{at}", kind) for end in "ab" for at, (_, kind) in enumerate(fields)]
                    left = applied(("const", label), *[("var", 2 * many - 1 - at) for at in range(many)])
                    right = applied(("const", label), *[("var", many - 1 - at) for at in range(many)])
                    names.append(("e", equation(own, left, right)))
                    declaration = keeps(signature, "new", number, place)
                    told.append(declaration)
                    self.accept(signature, naive, declaration, f"{label}.keeps.{place}", products(
                        names, equation(fields[place][1], ("var", 2 * many - place), ("var", many - place))))
            fresh = check_all(before)
            self.assertEqual(derived(fresh, "new"), tuple(told))
            self.assertEqual(fresh.shown(), before)
            self.assertEqual(len(data.constructors), len(rows))
            things += self.reckon(chance, signature, rows)
        self.assertGreater(things, 60)

    def reckon(self, chance, signature, rows):
        """Test sizes and tests of drawn things, and return how many there were."""
        found = 0
        for _ in range(4):
            thing = drawn_thing(chance, signature, "new", 2)
            if thing is None or thing[1] > 15:
                continue
            found += 1
            term, many = thing
            reckoner = Reckoner(signature)
            self.assertEqual(reckoner.normal(applied(("const", "new.size"), term)), num(many))
            head = term
            while head[0] == "app":
                head = head[1]
            for label, _, _ in rows:
                answer = ("const", "true" if head[1] == label else "false_b")
                self.assertEqual(reckoner.normal(applied(("const", f"new.is.{label}"), term)), answer)
                self.assertEqual(Runner(signature).run(applied(("const", f"new.is.{label}"), term)), (answer[1],))
        return found


class TestRefused(Deriving):
    def test_data_that_are_not_plain(self):
        rows = ROWS + (
            ("data", "list", (("A", TYPE),), (), 1, (("nil", (), ()),)),
            ("data", "vec", (), (("n", NAT),), 1, (("none", (), (ZERO,)),)),
            ("data", "low", (), (), 0, (("only", (), ()),)),
            ("data", "high", (), (), 2, (("top", (), ()),)),
            ("def", "N", TYPE, NAT),
            ("axiom", "away", TYPE),
        )
        fields = (applied(("const", "list"), NAT), ("const", "low"), ("const", "N"), ("const", "away"),
                  arrow(NAT, ("const", "d")), arrow(NAT, NAT), equation(NAT, ZERO, ZERO),
                  applied(("const", "vec"), ZERO))
        for name in ("list", "vec", "low", "high", "eq", "false", "true_p"):
            for call in (plain_data, size_of, derived):
                self.refuse(DataFault, call, check_all(rows), name)
            self.refuse(DataFault, test_of, check_all(rows), name, 0)
            self.refuse(DataFault, differs, check_all(rows), name, 0, 1)
            self.refuse(DataFault, keeps, check_all(rows), name, 0, 0)
        for field in fields:
            row = ("data", "d", (), (), 1, (("c", (), ()), ("e", (("x", NAT), ("y", field)), ())))
            signature = check_all(rows + (row,))
            for call in (plain_data, size_of, derived):
                self.refuse(DataFault, call, signature, "d")
            self.refuse(DataFault, test_of, signature, "d", 0)
            self.refuse(DataFault, differs, signature, "d", 0, 1)
            self.refuse(DataFault, keeps, signature, "d", 1, 0)
        # Data of a field's data need not be plain themselves.
        inner = ("data", "d", (), (), 1, (("c", (("f", arrow(NAT, NAT)),), ()),))
        outer = ("data", "o", (), (), 1, (("w", (("d", ("const", "d")),), ()), ("v", (), ())))
        signature = check_all(rows + (inner, outer))
        self.assertEqual(plain_data(signature, "o").shown(), outer)
        naive = naive_of(rows + (inner, outer))
        for declaration in derived(signature, "o"):
            Checker(signature).add(declaration)
            naive.add(declaration)

    def test_names_that_are_no_data(self):
        for name in ("nowhere", "O", "S", "add", "refl", ""):
            for call in (plain_data, size_of, derived):
                self.refuse(NameFault, call, SIGNATURE, name)
            self.refuse(NameFault, test_of, SIGNATURE, name, 0)
            self.refuse(NameFault, differs, SIGNATURE, name, 0, 1)
            self.refuse(NameFault, keeps, SIGNATURE, name, 0, 0)

    def test_numbers(self):
        new = ("data", "new", (), (), 1, (("c", (), ()), ("e", (("x", ("const", "new")),), ())))
        one = ("const", "new")
        other_add = ("def", "add", arrow(NAT, NAT), lam(("x", NAT), V0))
        for fault, rows in (
            (NameFault, (new,)),
            (NameFault, (NUMBERS, new)),
            (NameFault, (("axiom", "nat", TYPE), new)),
            (DataFault, (NUMBERS, other_add, new)),
            (DataFault, (NUMBERS, new, ("axiom", "add", arrow(one, NAT)))),
            (DataFault, (("data", "nat", (), (), 1, (("S", (("n", NAT),), ()), ("O", (), ()))), new,
                         ("axiom", "add", arrow(NAT, arrow(NAT, NAT))))),
            (DataFault, (("data", "nat", (), (), 1, (("Z", (), ()), ("S", (("n", NAT),), ()))), new,
                         ("axiom", "add", arrow(NAT, arrow(NAT, NAT))))),
        ):
            self.refuse(fault, size_of, check_all(rows), "new")
        signature = check_all((NUMBERS, new, ("axiom", "add", arrow(NAT, arrow(NAT, NAT)))))
        Checker(signature).add(size_of(signature, "new"))

    def test_truths(self):
        new = ("data", "new", (), (), 1, (("c", (), ()), ("e", (), ())))
        for fault, rows in (
            (NameFault, (new,)),
            (NameFault, (("axiom", "bool", TYPE), new)),
            (DataFault, (("data", "bool", (), (), 1, (("false_b", (), ()), ("true", (), ()))), new)),
            (DataFault, (("data", "bool", (), (), 1, (("true", (), ()), ("no", (), ()))), new)),
            (DataFault, (("data", "bool", (), (), 1, (("true", (), ()),)), new)),
        ):
            self.refuse(fault, test_of, check_all(rows), "new", 0)

    def test_statements(self):
        new = ("data", "new", (), (), 1, (("c", (), ()), ("e", (("x", ("const", "new")),), ())))
        for fault, rows in (
            (DataFault, (new,)),
            (DataFault, (FALSE, TRUE_P, new)),
            (NameFault, (EQ, TRUE_P, new)),
            (NameFault, (EQ, FALSE, new)),
            (NameFault, (EQ, ("axiom", "false", PROP), TRUE_P, new)),
            (DataFault, (EQ, ("data", "false", (), (), 0, (("no", (), ()),)), TRUE_P, new)),
            (DataFault, (EQ, FALSE, ("data", "true_p", (), (), 0, (("sure", (), ()),)), new)),
            (DataFault, (EQ, FALSE, ("data", "true_p", (), (), 0, (("yes", (("p", PROP),), ()),)), new)),
            (DataFault, (EQ, FALSE, ("data", "true_p", (), (), 0, ()), new)),
        ):
            self.refuse(fault, differs, check_all(rows), "new", 0, 1)
            self.refuse(fault, derived, check_all(rows), "new")
        self.refuse(DataFault, keeps, check_all((new,)), "new", 1, 0)
        signature = check_all((EQ, new))
        Checker(signature).add(keeps(signature, "new", 1, 0))
        signature = check_all(ROWS + (new,))
        for number in (0, 1):
            self.refuse(DataFault, differs, signature, "new", number, number)
        for number, place in ((0, 0), (1, 1), (1, 5), (1, -1)):
            self.refuse(DataFault, keeps, signature, "new", number, place)
        self.assertEqual(derived(check_all((("data", "one", (), (), 1, (("only", (), ()),)),)), "one"), ())
        self.assertEqual(derived(check_all((("data", "none", (), (), 1, ()),)), "none"), ())


if __name__ == "__main__":
    unittest.main()
