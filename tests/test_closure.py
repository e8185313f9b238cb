"""Closures: which terms are equal by assumed equations and by equal parts, against a naive closure, and the proofs."""

import inspect
import random
import unittest

from kernelstack import closure
from kernelstack.checker import Checker, check_all, is_proof
from kernelstack.closure import Closure, Link
from kernelstack.equality import equal_statement, sides_of
from kernelstack.errors import DataFault, KindFault, NameFault, StepFault, TermError
from kernelstack.signature import Signature
from kernelstack.terms import check_term, same
from naive_kernel import Naive
from samples import NAT, NEXT, PROP, TYPE, V0, V1, ZERO, applied
from stock import arrow, lam, num, pi

EQ = ("data", "eq", (("A", TYPE), ("a", V0)), (("b", V1),), 0, (("refl", (), (V0,)),))
NUMBERS = ("data", "nat", (), (), 1, (("O", (), ()), ("S", (("n", NAT),), ())))
UNARY = arrow(NAT, NAT)
BINARY = arrow(NAT, UNARY)
NAMES = [(f"c{number}", NAT) for number in range(6)] + [("f", UNARY), ("g", UNARY), ("k", BINARY), ("l", BINARY)]
ROWS = (EQ, NUMBERS) + tuple(("axiom", name, kind) for name, kind in NAMES) + (
    ("data", "list", (("A", TYPE),), (), 1, (("nil", (), ()), ("cons", (("x", V0), ("l", ("app", ("const", "list"), V1))),
                                                               ()))),
    ("axiom", "P", arrow(NAT, PROP)),
    ("axiom", "depend", pi(("n", NAT), ("app", ("const", "vec"), V0))),
)
ROWS = ROWS[:-1] + (("axiom", "vec", arrow(NAT, TYPE)), ROWS[-1], ("axiom", "big", arrow(TYPE, NAT)),
                    ("def", "two", NAT, applied(NEXT, applied(NEXT, ZERO))))
SIGNATURE = check_all(ROWS)
KINDS = dict(NAMES)


def const(name):
    """Return a constant."""
    return ("const", name)


def eq(one, other, kind=NAT):
    """Return the statement that two terms are equal."""
    return applied(const("eq"), kind, one, other)


def drawn(chance, fuel, kind=NAT):
    """Return a drawn term of a kind."""
    if kind != NAT:
        if kind == UNARY and fuel > 0 and chance.random() < 0.3:
            return ("app", const(chance.choice("kl")), drawn(chance, fuel - 1))
        return const(chance.choice([name for name, one in NAMES if one == kind]))
    if fuel <= 0 or chance.random() < 0.35:
        return const(f"c{chance.randrange(6)}")
    return ("app", drawn(chance, fuel - 1, UNARY), drawn(chance, fuel - 1))


def parts_of(term):
    """Return a term and all its parts."""
    return [term] + (parts_of(term[1]) + parts_of(term[2]) if term[0] == "app" else [])


class NaiveClosure:
    """Classes of terms as a table from each to a name, made anew until nothing changes."""

    def __init__(self, terms, pairs):
        self.names = {term: place for place, term in enumerate({one: True for term in terms for one in parts_of(term)})}
        while True:
            change = self.change(pairs)
            if change is None:
                break
            self.names = {term: change[0] if name == change[1] else name for term, name in self.names.items()}

    def change(self, pairs):
        """Return two names of one class, None if there are none."""
        for one, other in pairs:
            if self.names[one] != self.names[other]:
                return (self.names[one], self.names[other])
        seen = {}
        for term in self.names:
            if term[0] == "app":
                key = (self.names[term[1]], self.names[term[2]])
                if seen.setdefault(key, self.names[term]) != self.names[term]:
                    return (seen[key], self.names[term])
        return None


def seen_of(one):
    """Return what a closure shows."""
    return (dict(one.kinds), dict(one.roots))


class Closures(unittest.TestCase):
    def accept(self, signature, one, first, second, kind=NAT):
        """Test that a closure's proof proves just that two terms are equal, by the kernel and by a naive one."""
        proof = one.explain(first, second)
        check_term(proof)
        statement = equal_statement(kind, first, second)
        self.assertTrue(same(one.equation(first, second), statement))
        self.assertTrue(is_proof(signature, proof, statement), (first, second))
        naive = Naive()
        for row in signature.order:
            naive.add(row)
        naive.steps = 0
        self.assertTrue(same(naive.kind_of(proof, ()), naive.normal(statement)))

    def refuse(self, fault, call, one=None):
        """Test that a call is refused, and leaves a closure as it was."""
        before = None if one is None else seen_of(one)
        with self.assertRaises(fault) as caught:
            call()
        self.assertIs(type(caught.exception), fault)
        if one is not None:
            self.assertEqual(seen_of(one), before)


class TestClosure(Closures):
    def test_interface(self):
        for name, told in (("add", "(self, term)"), ("assume", "(self, proof)"), ("are_equal", "(self, one, other)"),
                           ("explain", "(self, one, other)"), ("equation", "(self, one, other)")):
            self.assertEqual(str(inspect.signature(vars(Closure)[name])), told)
        self.assertEqual(str(inspect.signature(closure.Link)), "(other, proof, is_turned)")
        self.assertEqual(str(inspect.signature(closure.Closure)), "(signature)")
        one = Closure(SIGNATURE)
        self.assertEqual((one.kinds, one.roots, one.signature), ({}, {}, SIGNATURE))
        self.assertEqual(Link(ZERO, None, False).other, ZERO)
        self.refuse(DataFault, lambda: Closure(Signature()))

    def test_terms_and_their_parts(self):
        one = Closure(SIGNATURE)
        self.assertIsNone(one.add(applied(const("k"), const("c0"), applied(NEXT, ZERO))))
        told = {applied(const("k"), const("c0"), applied(NEXT, ZERO)): NAT, ("app", const("k"), const("c0")): UNARY,
                const("k"): BINARY, const("c0"): NAT, applied(NEXT, ZERO): NAT, NEXT: UNARY, ZERO: NAT}
        self.assertEqual(set(one.kinds), set(told))
        for term, kind in told.items():
            self.assertTrue(same(one.kinds[term], kind))
        self.assertEqual(one.roots, {term: term for term in told})
        # What hangs on its argument, and what is made of kinds, is not looked into.
        one = Closure(SIGNATURE)
        nil, cons = applied(const("nil"), NAT), applied(const("cons"), NAT)
        one.add(applied(cons, ZERO, nil))
        self.assertEqual(set(one.kinds), {applied(cons, ZERO, nil), applied(cons, ZERO), cons, ZERO, nil})
        one = Closure(SIGNATURE)
        one.add(applied(const("depend"), ZERO))
        one.add(applied(const("big"), NAT))
        self.assertEqual(set(one.kinds), {applied(const("depend"), ZERO), applied(const("big"), NAT)})
        one = Closure(SIGNATURE)
        one.add(lam(("x", NAT), applied(NEXT, V0)))
        one.add(("let", "x", NAT, ZERO, applied(NEXT, V0)))
        one.add(const("two"))
        self.assertEqual(len(one.kinds), 3)
        one.add(const("two"))
        self.assertEqual(len(one.kinds), 3)
        # Terms are compared as tuples, binders' names and all.
        one.add(lam(("y", NAT), applied(NEXT, V0)))
        self.assertEqual(len(one.kinds), 4)
        self.assertFalse(one.are_equal(lam(("x", NAT), applied(NEXT, V0)), lam(("y", NAT), applied(NEXT, V0))))
        self.assertFalse(one.are_equal(const("two"), applied(NEXT, applied(NEXT, ZERO))))

    def test_what_is_refused(self):
        one = Closure(SIGNATURE)
        one.add(const("c0"))
        for fault, term in (
            (StepFault, V0),
            (StepFault, applied(NEXT, V0)),
            (StepFault, lam(("x", NAT), V1)),
            (StepFault, NAT),
            (StepFault, TYPE),
            (StepFault, const("list")),
            (StepFault, applied(const("refl"), NAT, ZERO)),
            (StepFault, const("nil")),
            (StepFault, const("big")),
            (NameFault, const("nowhere")),
            (KindFault, applied(ZERO, ZERO)),
            (KindFault, applied(NEXT, NAT)),
            (TermError, ("sort", 13)),
            (TermError, applied(NEXT, ("sort", 13))),
            (TermError, num(100)),
            (TermError, num(5000)),
        ):
            with self.subTest(term):
                self.refuse(fault, lambda: one.add(term), one)
                self.refuse(fault, lambda: one.are_equal(const("c1"), term), one)
                self.refuse(fault, lambda: one.explain(term, const("c1")), one)
        # Statements themselves are terms with a kind of level 1.
        one.add(applied(const("P"), ZERO))
        self.assertEqual(one.kinds[applied(const("P"), ZERO)], PROP)

    def test_three_hundred_terms(self):
        rows = ROWS + tuple(("axiom", f"n{number}", NAT) for number in range(301))
        signature = check_all(rows)
        one = Closure(signature)
        for number in range(297):
            one.add(const(f"n{number}"))
        self.refuse(StepFault, lambda: one.add(applied(const("k"), const("n297"), const("n298"))), one)
        self.refuse(StepFault, lambda: one.are_equal(const("n297"), applied(const("k"), const("n0"), const("n298"))),
                    one)
        one.add(applied(const("f"), const("n297")))
        self.assertEqual(len(one.kinds), 300)
        self.refuse(StepFault, lambda: one.add(const("n298")), one)
        self.refuse(StepFault, lambda: one.add(applied(const("f"), const("n0"))), one)
        self.refuse(StepFault, lambda: one.add(const("nowhere")), one)
        one.add(const("n5"))
        self.assertFalse(one.are_equal(const("n5"), const("n6")))
        self.assertTrue(one.are_equal(const("n5"), const("n5")))

    def test_assuming(self):
        signature = check_all(ROWS + (
            ("axiom", "h", eq(const("c0"), const("c1"))),
            ("axiom", "p", PROP),
            ("axiom", "q", const("p")),
            ("axiom", "each", pi(("n", NAT), eq(applied(const("f"), V0), V0))),
            ("axiom", "other", pi(("x", eq(ZERO, ZERO)), eq(const("c2"), const("c3")))),
        ))
        one = Closure(signature)
        for fault, proof in (
            (StepFault, const("q")),
            (StepFault, ZERO),
            (StepFault, NAT),
            (StepFault, TYPE),
            (StepFault, const("each")),
            (StepFault, const("other")),
            (KindFault, V0),
            (KindFault, applied(const("h"), ZERO)),
            (NameFault, const("nowhere")),
            (TermError, ("sort", 13)),
        ):
            with self.subTest(proof):
                self.refuse(fault, lambda: one.assume(proof), one)
        self.assertIsNone(one.assume(const("h")))
        self.assertEqual(set(one.kinds), {const("c0"), const("c1")})
        self.assertEqual(one.roots, {const("c0"): const("c0"), const("c1"): const("c0")})
        one.assume(applied(const("each"), const("c4")))
        self.assertTrue(one.are_equal(applied(const("f"), const("c4")), const("c4")))
        self.assertFalse(one.are_equal(applied(const("f"), const("c5")), const("c5")))
        one.assume(applied(const("other"), applied(const("refl"), NAT, ZERO)))
        self.assertTrue(one.are_equal(const("c2"), const("c3")))
        self.accept(signature, one, const("c3"), const("c2"))
        one.assume(applied(const("refl"), NAT, const("c5")))
        one.assume(const("h"))
        self.accept(signature, one, const("c1"), const("c0"))

    def test_equations_with_definitions(self):
        signature = check_all(ROWS + (("axiom", "h", eq(const("two"), const("c1"))),))
        one = Closure(signature)
        one.assume(const("h"))
        self.assertTrue(one.are_equal(const("two"), const("c1")))
        self.accept(signature, one, applied(const("f"), const("two")), applied(const("f"), const("c1")))
        # An equation whose sides are reckoned to what is too deep for terms is assumed as it is told.
        signature = check_all(ROWS + (
            ("def", "sixty", NAT, num(60)),
            ("def", "deep", NAT, applied(("rec", "nat", 1), lam(("x", NAT), NAT), const("sixty"),
                                         lam(("n", NAT), ("h", NAT), applied(NEXT, V0)), const("sixty"))),
            ("axiom", "h", eq(const("deep"), const("c1"))),
        ))
        one = Closure(signature)
        one.assume(const("h"))
        self.assertEqual(set(one.kinds), {const("deep"), const("c1")})
        self.accept(signature, one, const("c1"), const("deep"))

    def test_equations_as_they_are_reckoned(self):
        signature = check_all(ROWS + (("axiom", "h", eq(const("two"), const("c1"))),))
        one = Closure(signature)
        one.assume(const("h"))
        # What the kernel tells to be the proof's kind is just as well assumed.
        _, left, right = sides_of(Checker(signature).kind_term(const("h")))
        self.assertTrue(one.are_equal(left, right))
        self.accept(signature, one, left, right)

    def test_explaining(self):
        signature = check_all(ROWS + (("axiom", "h", eq(const("c0"), const("c1"))),))
        one = Closure(signature)
        self.accept(signature, one, const("c5"), const("c5"))
        self.refuse(StepFault, lambda: one.explain(const("c0"), const("c1")))
        # What was asked for is there, all the same.
        self.assertIn(const("c0"), one.kinds)
        self.refuse(StepFault, lambda: one.explain(const("c0"), const("f")))
        one.assume(const("h"))
        for first, second in ((const("c0"), const("c1")), (const("c1"), const("c0"))):
            self.accept(signature, one, first, second)
            for around in (const("f"), applied(const("k"), const("c3"))):
                self.accept(signature, one, applied(around, first), applied(around, second))
            self.accept(signature, one, applied(const("k"), first), applied(const("k"), second), UNARY)
            self.accept(signature, one, applied(const("k"), first, second), applied(const("k"), second, first))
            self.accept(signature, one, applied(const("k"), first, first), applied(const("k"), second, second))
        self.refuse(StepFault, lambda: one.explain(const("c0"), const("c2")))
        self.refuse(StepFault, lambda: one.explain(applied(const("f"), const("c0")), applied(const("g"), const("c1"))))

    def test_functions_that_are_equal(self):
        signature = check_all(ROWS + (
            ("axiom", "h", eq(const("f"), const("g"), UNARY)),
            ("axiom", "i", eq(const("c0"), const("c1"))),
            ("axiom", "j", eq(applied(const("k"), const("c2")), const("f"), UNARY)),
        ))
        one = Closure(signature)
        for name in "hij":
            one.assume(const(name))
        self.accept(signature, one, applied(const("f"), const("c0")), applied(const("g"), const("c1")))
        self.accept(signature, one, applied(const("k"), const("c2"), const("c0")), applied(const("g"), const("c1")))
        self.accept(signature, one, const("g"), applied(const("k"), const("c2")), UNARY)
        self.assertFalse(one.are_equal(applied(const("k"), const("c0")), applied(const("k"), const("c2"))))

    def test_deep_terms(self):
        signature = check_all(ROWS + (("axiom", "h", eq(const("c0"), const("c1"))),
                                      ("axiom", "i", eq(const("c0"), applied(const("f"), const("c0"))))))
        one = Closure(signature)
        one.assume(const("h"))
        left, right = const("c0"), const("c1")
        for _ in range(60):
            left, right = applied(NEXT, left), applied(NEXT, right)
        self.accept(signature, one, left, right)
        one = Closure(signature)
        one.assume(const("i"))
        left = const("c0")
        for _ in range(30):
            left = applied(const("f"), left)
        self.assertTrue(one.are_equal(left, const("c0")))
        self.accept(signature, one, left, const("c0"))

    def test_proofs_that_are_too_large(self):
        # Both arguments of each term are equal by what is below them, so that the proofs double from level to level.
        rows = [("axiom", "h", eq(const("c0"), const("c1")))]
        for number in range(40):
            for end in "de":
                rows.append(("axiom", f"{end}{number}", NAT))
            below = (const("c0"), const("c1")) if number == 0 else (const(f"d{number - 1}"), const(f"e{number - 1}"))
            for end, inner in zip("de", below):
                rows.append(("axiom", f"{end}h{number}", eq(const(f"{end}{number}"), applied(const("k"), inner, inner))))
        signature = check_all(ROWS + tuple(rows))
        one = Closure(signature)
        one.assume(const("h"))
        for number in range(40):
            one.assume(const(f"dh{number}"))
            one.assume(const(f"eh{number}"))
        self.accept(signature, one, const("d1"), const("e1"))
        before = seen_of(one)
        for number in (12, 25, 39):
            self.assertTrue(one.are_equal(const(f"d{number}"), const(f"e{number}")))
            self.refuse(StepFault, lambda: one.explain(const(f"d{number}"), const(f"e{number}")), one)
        self.assertEqual(seen_of(one), before)
        self.accept(signature, one, const("d2"), const("e2"))


class TestDrawn(Closures):
    def test_against_a_naive_closure(self):
        chance = random.Random(111)
        told = {True: 0, False: 0}
        for number in range(40):
            terms = [drawn(chance, 3) for _ in range(10)] + [drawn(chance, 2, UNARY) for _ in range(4)]
            pairs = []
            for place in range(chance.randrange(1, 8)):
                kind = UNARY if chance.random() < 0.2 else NAT
                pool = terms[10:] if kind == UNARY else terms[:10]
                pairs.append((kind, chance.choice(pool), chance.choice(pool)))
            rows = tuple(("axiom", f"h{place}", eq(one, other, kind)) for place, (kind, one, other) in enumerate(pairs))
            signature = check_all(ROWS + rows)
            one = Closure(signature)
            order = [("assume", const(f"h{place}")) for place in range(len(pairs))] + [("add", term) for term in terms]
            chance.shuffle(order)
            for word, term in order:
                one.assume(term) if word == "assume" else one.add(term)
            naive = NaiveClosure(terms, [pair[1:] for pair in pairs])
            self.assertEqual(set(one.kinds), set(naive.names))
            known = sorted(naive.names)
            for term in known:
                least = min(other for other in known if naive.names[other] == naive.names[term])
                self.assertEqual(one.roots[term], least)
            for first in known:
                for second in known:
                    answer = naive.names[first] == naive.names[second]
                    self.assertIs(one.are_equal(first, second), answer)
                    told[answer] += 1
            equal = [(first, second) for first in known for second in known
                     if naive.names[first] == naive.names[second] and first != second]
            for first, second in chance.sample(equal, min(12, len(equal))):
                self.accept(signature, one, first, second, one.kinds[first])
            others = [(first, second) for first in known for second in known
                      if naive.names[first] != naive.names[second]]
            for first, second in chance.sample(others, min(5, len(others))):
                self.refuse(StepFault, lambda: one.explain(first, second), one)
        self.assertGreater(min(told.values()), 1000, told)


if __name__ == "__main__":
    unittest.main()
