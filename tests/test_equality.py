"""Proofs that terms are equal, made of others: the kernel and a naive one accept each for just its statement."""

import inspect
import random
import unittest

from kernelstack import equality
from kernelstack.checker import Checker, check_all, is_proof
from kernelstack.equality import (
    by_itself,
    carried_on,
    equal_statement,
    in_argument,
    in_function,
    joined_proofs,
    need_equality,
    plain_function,
    sides_of,
    turned,
)
from kernelstack.errors import DataFault, KernelError, StepFault
from kernelstack.signature import Signature
from kernelstack.terms import check_term, lifted, same, size
from naive_kernel import Naive
from samples import NAT, NEXT, PROP, TYPE, V0, V1, V2, V3, ZERO, applied
from stock import ROWS, SIGNATURE, arrow, lam, naive_stock, num, pi

NAIVE = naive_stock()
FUNCTION = arrow(NAT, NAT)


def eq(kind, one, other):
    """Return the statement that two terms are equal."""
    return applied(("const", "eq"), kind, one, other)


class Equalities(unittest.TestCase):
    def accept(self, rows, proof, statement):
        """Test that a proof under (name, kind) rows proves just a statement, by the kernel and by a naive one."""
        whole, kind = proof, statement
        for name, one in reversed(rows):
            whole, kind = ("lam", name, one, whole), ("pi", name, one, kind)
        check_term(whole)
        self.assertTrue(is_proof(SIGNATURE, whole, kind), statement)
        Checker(SIGNATURE.copied()).add(("def", "fresh", kind, whole))
        NAIVE.steps = 0
        self.assertTrue(same(NAIVE.kind_of(whole, ()), NAIVE.normal(kind)))


class TestEquality(Equalities):
    def test_interface(self):
        for name, told in (
            ("need_equality", "(signature)"),
            ("equal_statement", "(kind, one, other)"),
            ("sides_of", "(statement)"),
            ("by_itself", "(kind, term)"),
            ("carried_on", "(kind, one, other, proof, body, value)"),
            ("turned", "(kind, one, other, proof)"),
            ("joined_proofs", "(kind, terms, proofs)"),
            ("in_argument", "(kinds, function, one, other, proof)"),
            ("in_function", "(kinds, functions, proof, argument)"),
            ("plain_function", "(kind)"),
        ):
            self.assertEqual(str(inspect.signature(getattr(equality, name))), told)

    def test_signatures(self):
        self.assertIsNone(need_equality(SIGNATURE))
        good = ("data", "eq", (("A", TYPE), ("a", V0)), (("b", V1),), 0, (("refl", (), (V0,)),))
        self.assertIsNone(need_equality(check_all((good,))))
        other_names = ("data", "eq", (("K", TYPE), ("x", V0)), (("_", V1),), 0, (("refl", (), (V0,)),))
        self.assertIsNone(need_equality(check_all((other_names,))))
        for rows in (
            (),
            (("axiom", "eq", PROP),),
            (("axiom", "eq", pi(("A", TYPE), ("a", V0), ("b", V1), PROP)),),
            (("data", "same") + good[2:],),
            (good[:5] + ((("itself", (), (V0,)),),),),
            (good[:5] + ((),),),
            (good[:5] + ((("refl", (("p", PROP),), (V1,)),),),),
            (good[:5] + ((("refl", (), (V0,)), ("other", (), (V0,))),),),
            (good[:4] + (1,) + good[5:],),
            (good[:3] + ((), 0, (("refl", (), ()),)),),
            (("data", "eq", (("A", TYPE),), (("a", V0), ("b", V1)), 0, (("refl", (("x", V0),), (V0, V0)),)),),
            (("data", "eq", (("A", TYPE), ("a", V0), ("b", V1)), (("c", V2),), 0, (("refl", (), (V0,)),)),),
            (("data", "eq", (("A", TYPE), ("a", TYPE)), (("b", TYPE),), 0, (("refl", (), (V0,)),)),),
            (("data", "eq", (("A", TYPE), ("a", V0)), (("b", V1), ("c", V2)), 0, (("refl", (), (V0, V0)),)),),
        ):
            with self.assertRaises(DataFault):
                need_equality(check_all(rows))
        with self.assertRaises(DataFault):
            need_equality(Signature())

    def test_statements_and_sides(self):
        for kind, one, other in ((NAT, ZERO, V0), (V3, V1, V0), (FUNCTION, NEXT, lam(("x", NAT), V1))):
            statement = equal_statement(kind, one, other)
            self.assertEqual(statement, eq(kind, one, other))
            self.assertEqual(sides_of(statement), (kind, one, other))
        for term in (
            ("const", "eq"),
            applied(("const", "eq"), NAT),
            applied(("const", "eq"), NAT, ZERO),
            applied(("const", "eq"), NAT, ZERO, ZERO, ZERO),
            applied(("const", "same"), NAT, ZERO, ZERO),
            applied(("rec", "eq", 0), NAT, ZERO, ZERO),
            applied(V0, NAT, ZERO, ZERO),
            arrow(eq(NAT, ZERO, ZERO), eq(NAT, ZERO, ZERO)),
            lam(("x", NAT), eq(NAT, V0, V0)),
            ("let", "x", NAT, ZERO, eq(NAT, V0, V0)),
            NAT,
            PROP,
        ):
            self.assertIsNone(sides_of(term))

    def test_plain_functions(self):
        self.assertEqual(plain_function(FUNCTION), (NAT, NAT))
        self.assertEqual(plain_function(pi(("x", V0), V1)), (V0, V0))
        self.assertEqual(plain_function(pi(("x", NAT), ("y", V2), V3)), (NAT, pi(("y", V1), V2)))
        self.assertEqual(plain_function(arrow(NAT, pi(("x", NAT), eq(NAT, V0, V0)))),
                         (NAT, pi(("x", NAT), eq(NAT, V0, V0))))
        for kind in (pi(("x", NAT), eq(NAT, V0, ZERO)), pi(("A", TYPE), V0), NAT, TYPE, lam(("x", NAT), NAT), V0):
            self.assertIsNone(plain_function(kind))

    def test_each_function(self):
        rows = [("a", NAT), ("b", NAT), ("c", NAT), ("f", FUNCTION), ("g", FUNCTION),
                ("p", eq(NAT, ("var", 4), ("var", 3))), ("q", eq(NAT, ("var", 4), ("var", 3))),
                ("r", eq(FUNCTION, V3, V2))]
        a, b, c, f, g, p, q, r = (("var", number) for number in reversed(range(8)))
        self.accept(rows, by_itself(NAT, a), eq(NAT, a, a))
        self.accept(rows, turned(NAT, a, b, p), eq(NAT, b, a))
        self.accept(rows, joined_proofs(NAT, (a, b, c), (p, q)), eq(NAT, a, c))
        self.accept(rows, in_argument((NAT, NAT), f, a, b, p), eq(NAT, ("app", f, a), ("app", f, b)))
        self.accept(rows, in_function((FUNCTION, NAT), (f, g), r, a), eq(NAT, ("app", f, a), ("app", g, a)))
        body = eq(NAT, applied(lifted(f, 1), V0), applied(("const", "plus"), V0, lifted(a, 1)))
        value_rows = rows + [("v", eq(NAT, ("app", f, a), applied(("const", "plus"), a, a)))]
        a, b, f, p = (lifted(one, 1) for one in (a, b, f, p))
        self.accept(value_rows, carried_on(NAT, a, b, p, lifted(body, 1, 1), V0),
                    eq(NAT, ("app", f, b), applied(("const", "plus"), b, a)))

    def test_proofs_that_are_too_large(self):
        # A proof of many levels, or of many nodes, is no term.
        proof, many = ("const", "h"), 0
        with self.assertRaises(StepFault):
            while True:
                proof = turned(NAT, ZERO, ZERO, proof)
                check_term(proof)
                many += 1
        self.assertGreater(many, 80)
        wide = ZERO
        for _ in range(10):
            wide = applied(("const", "plus"), wide, wide)
        self.assertEqual(size(wide), 4093)
        by_itself(NAT, wide)
        for call in (lambda: turned(NAT, wide, wide, ("const", "h")),
                     lambda: joined_proofs(NAT, (wide, wide, wide), (by_itself(NAT, wide), ("const", "k"))),
                     lambda: in_argument((NAT, NAT), NEXT, wide, wide, ("const", "h")),
                     lambda: in_function((FUNCTION, NAT), (NEXT, NEXT), ("const", "h"), applied(("const", "plus"),
                                                                                              wide, wide))):
            with self.assertRaises(StepFault):
                call()


class TestDrawn(Equalities):
    def drawn(self, chance, known, variable):
        """Return (kind, one, other, proof) that is made of some that are known, by a drawn function."""
        kind, one, other, proof = chance.choice(known)
        way = chance.randrange(6)
        if way == 0:
            return (kind, other, one, turned(kind, one, other, proof))
        if way == 1:
            for last in chance.sample(known, len(known)):
                if last[0] == kind and last[1] == other:
                    return (kind, one, last[2], joined_proofs(kind, (one, other, last[2]), (proof, last[3])))
        if way == 2 and kind == NAT:
            function = chance.choice((NEXT, ("app", ("const", "plus"), one), variable,
                                      lam(("x", NAT), applied(("const", "plus"), V0, lifted(other, 1)))))
            made = in_argument((NAT, NAT), function, one, other, proof)
            return (NAT, ("app", function, one), ("app", function, other), made)
        if way == 3 and kind == FUNCTION:
            value = chance.choice([row[1] for row in known if row[0] == NAT] + [num(2)])
            made = in_function((FUNCTION, NAT), (one, other), proof, value)
            return (NAT, ("app", one, value), ("app", other, value), made)
        if way == 4:
            # one = one, with the first one exchanged on the left.
            body = equal_statement(lifted(kind, 1), V0, lifted(one, 1))
            return (kind, other, one, carried_on(kind, one, other, proof, body, by_itself(kind, one)))
        return (kind, one, one, by_itself(kind, one))

    def test_proofs_made_of_proofs(self):
        chance = random.Random(101)
        rows = [("a", NAT), ("b", NAT), ("c", NAT), ("f", FUNCTION), ("g", FUNCTION),
                ("p", eq(NAT, ("var", 4), ("var", 3))), ("q", eq(NAT, ("var", 4), ("var", 3))),
                ("r", eq(FUNCTION, ("var", 3), ("var", 2)))]
        a, b, c, f, g, p, q, r = (("var", number) for number in reversed(range(8)))
        accepted = 0
        for _ in range(60):
            known = [(NAT, a, b, p), (NAT, b, c, q), (FUNCTION, f, g, r)]
            for _ in range(10):
                try:
                    found = self.drawn(chance, known, f)
                except StepFault:
                    continue
                if size(found[3]) > 3000:
                    continue
                try:
                    self.accept(rows, found[3], equal_statement(*found[:3]))
                except KernelError:
                    self.assertGreater(size(found[3]), 500)
                    continue
                accepted += 1
                known.append(found)
        self.assertGreater(accepted, 400)

    def test_other_statements_are_refused(self):
        rows = (("a", NAT), ("b", NAT), ("p", eq(NAT, V1, V0)))
        a, b, p = V2, V1, V0
        for proof, statement in (
            (turned(NAT, a, b, p), eq(NAT, a, b)),
            (by_itself(NAT, a), eq(NAT, a, b)),
            (in_argument((NAT, NAT), NEXT, a, b, p), eq(NAT, a, b)),
            (joined_proofs(NAT, (a, b, a), (p, p)), eq(NAT, a, a)),
        ):
            self.assertFalse(is_proof(SIGNATURE, lam(*rows, proof), pi(*rows, statement)))


if __name__ == "__main__":
    unittest.main()
