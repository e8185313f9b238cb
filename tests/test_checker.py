import inspect
import unittest

from kernelstack import checker as module
from kernelstack.checker import Checker, check_all, is_proof
from kernelstack.data import recursor_kind
from kernelstack.errors import KindFault, NameFault, TermError, WorkFault
from kernelstack.signature import Signature
from kernelstack.terms import arrow, pi_level, same
from kernelstack.values import Reckoner
from samples import NAT, NEXT, PROP, TYPE, V0, V1, V2, V3, ZERO, applied, broad, chain
from stock import (
    BOOL,
    CONS,
    EQ,
    LIST,
    PLUS,
    REC,
    REFL,
    ROWS,
    SIGNATURE,
    TIMES,
    TRUE,
    VEC,
    equal,
    into,
    lam,
    num,
    pi,
    stock,
    to,
)


def kind_of(term):
    """Return the kind of a closed term in the stock."""
    return Checker(SIGNATURE).kind_term(term)


class TestKinds(unittest.TestCase):
    def expect(self, term, told):
        """Compare a term's kind with another one."""
        self.assertTrue(same(kind_of(term), told), (kind_of(term), told))

    def refuse(self, *terms, fault=KindFault):
        """Raise a failure for a term that has a kind."""
        for term in terms:
            with self.assertRaises(fault, msg=term) as caught:
                kind_of(term)
            self.assertIs(type(caught.exception), fault)

    def test_interface(self):
        for name, told in {
            "row": "(self, context)",
            "bind": "(self, context, name, kind)",
            "infer": "(self, term, context=())",
            "kind_term": "(self, term)",
            "add": "(self, declaration)",
        }.items():
            self.assertEqual(str(inspect.signature(vars(Checker)[name])), told)
        self.assertEqual(str(inspect.signature(Checker)), "(signature, most=200000)")
        self.assertEqual(str(inspect.signature(check_all)), "(declarations, most=200000)")
        self.assertEqual(str(inspect.signature(is_proof)), "(signature, term, statement)")
        self.assertEqual(module.is_proof.__module__, "kernelstack.checker")

    def test_sorts(self):
        for level in range(12):
            self.expect(("sort", level), ("sort", level + 1))
        self.refuse(("sort", 12), arrow(NAT, ("sort", 12)), lam(("x", ("sort", 12)), V0))

    def test_products_of_each_pair_of_levels(self):
        # The kind of a sort is one level higher than the sort; statements are of level 0.
        ones = [(0, equal(NAT, ZERO, ZERO))] + [(level + 1, ("sort", level)) for level in range(12)]
        for level, kind in ones:
            for other, body in ones:
                self.expect(pi(("x", kind), body), ("sort", pi_level(level, other)))
                self.assertEqual(pi_level(level, other), 0 if other == 0 else max(level, other))

    def test_products_that_hang_on_their_variable(self):
        self.expect(pi(("A", TYPE), V0), ("sort", 2))
        self.expect(pi(("A", PROP), V0), PROP)
        self.expect(pi(("A", TYPE), arrow(V0, V0)), ("sort", 2))
        self.expect(pi(("n", NAT), equal(NAT, V0, V0)), PROP)
        self.refuse(pi(("x", ZERO), NAT), pi(("x", NAT), ZERO), pi(("x", NAT), V0), pi(("f", NEXT), NAT))

    def test_functions(self):
        self.expect(lam(("x", NAT), V0), arrow(NAT, NAT))
        self.expect(lam(("A", TYPE), ("x", V0), V0), pi(("A", TYPE), arrow(V0, V0)))
        self.expect(lam(("x", ("const", "N")), V0), arrow(NAT, NAT))
        self.expect(lam(("n", NAT), applied(REFL, NAT, V0)), pi(("n", NAT), equal(NAT, V0, V0)))
        self.refuse(lam(("x", ZERO), V0), lam(("x", NAT), V1), lam(("x", NAT), ("app", V0, V0)))

    def test_variables(self):
        self.refuse(V0, V3, lam(("x", NAT), V1), pi(("x", V0), NAT), ("let", "x", V0, ZERO, V0))

    def test_applications(self):
        self.expect(applied(NEXT, ZERO), NAT)
        self.expect(applied(PLUS, ZERO), to(NAT, NAT))
        self.expect(applied(CONS, NAT, ZERO, applied(("const", "nil"), NAT)), applied(LIST, NAT))
        self.expect(applied(("const", "id"), NAT, ZERO), NAT)
        self.expect(applied(REFL, NAT, applied(PLUS, num(1), num(1))), equal(NAT, num(2), num(2)))
        self.refuse(
            applied(NEXT, TRUE),
            applied(NEXT, NEXT),
            applied(NEXT, ZERO, ZERO),
            applied(ZERO, ZERO),
            applied(TYPE, ZERO),
            applied(NAT, ZERO),
            applied(arrow(NAT, NAT), ZERO),
            applied(LIST, ZERO),
            applied(CONS, BOOL, ZERO),
            applied(("const", "id"), PROP, NAT),
            applied(NEXT, lam(("x", NAT), V0)),
            applied(lam(("f", NAT), V0), lam(("x", NAT), V0)),
        )

    def test_there_is_no_way_to_a_higher_level(self):
        # A statement is no Type, and a Type no Type 1.
        self.refuse(
            applied(LIST, equal(NAT, ZERO, ZERO)),
            applied(LIST, TYPE),
            applied(lam(("A", ("sort", 2)), V0), NAT),
            applied(lam(("A", TYPE), V0), equal(NAT, ZERO, ZERO)),
        )
        self.expect(applied(lam(("A", ("sort", 2)), V0), TYPE), ("sort", 2))

    def test_arguments_that_fit_when_reckoned(self):
        cell = applied(VEC, BOOL, applied(PLUS, num(1), num(1)))
        self.expect(
            applied(lam(("v", applied(VEC, BOOL, num(2))), V0), applied(lam(("v", cell), V0), one_of(cell))),
            applied(VEC, BOOL, num(2)),
        )
        self.refuse(applied(lam(("v", applied(VEC, BOOL, num(3))), V0), one_of(cell)))
        self.expect(applied(NEXT, applied(lam(("x", ("const", "N")), V0), ZERO)), NAT)
        self.expect(
            applied(lam(("f", arrow(NAT, NAT)), V0), lam(("x", ("const", "N")), applied(NEXT, V0))), to(NAT, NAT)
        )

    def test_local_definitions(self):
        self.expect(("let", "x", NAT, num(1), applied(REFL, NAT, V0)), equal(NAT, num(1), num(1)))
        self.expect(("let", "A", TYPE, NAT, lam(("x", V0), applied(NEXT, V0))), to(NAT, NAT))
        self.expect(
            lam(("n", NAT), ("let", "x", NAT, applied(NEXT, V0), applied(REFL, NAT, V0))),
            pi(("n", NAT), equal(NAT, applied(NEXT, V0), applied(NEXT, V0))),
        )
        self.expect(lam(("n", NAT), ("let", "A", TYPE, NAT, lam(("y", V0), applied(PLUS, V0, V2)))), to(NAT, NAT, NAT))
        # The body may use what the variable stands for, but not what it does not.
        self.expect(
            (
                "let",
                "n",
                NAT,
                num(2),
                applied(lam(("v", applied(VEC, BOOL, V0)), ZERO), one_of(applied(VEC, BOOL, num(2)))),
            ),
            NAT,
        )
        self.refuse(
            applied(
                lam(("n", NAT), applied(lam(("v", applied(VEC, BOOL, V0)), ZERO), one_of(applied(VEC, BOOL, num(2))))),
                num(2),
            )
        )
        self.refuse(
            ("let", "x", NAT, TRUE, ZERO),
            ("let", "x", ZERO, ZERO, ZERO),
            ("let", "x", NAT, NAT, V0),
            ("let", "x", NAT, ZERO, V1),
            ("let", "x", NAT, V0, V0),
            ("let", "x", BOOL, TRUE, applied(NEXT, V0)),
        )

    def test_unknown_names(self):
        for term in (
            ("const", "nowhere"),
            ("rec", "nowhere", 0),
            ("rec", "plus", 0),
            ("rec", "O", 1),
            applied(NEXT, ("const", "nowhere")),
            lam(("x", ("const", "nowhere")), V0),
        ):
            self.refuse(term, fault=NameFault)

    def test_no_terms(self):
        self.refuse(("sort", 13), ("app", NEXT), None, (), chain(101), broad(20001), fault=TermError)

    def test_terms_of_a_hundred_levels(self):
        self.assertTrue(same(kind_of(num(99)), NAT))
        self.refuse(num(100), fault=TermError)
        deep, left = NAT, NAT
        for _ in range(98):
            deep, left = ("pi", "x", NAT, deep), ("pi", "x", left, NAT)
        for term in (deep, left):
            self.expect(term, TYPE)
        self.expect(("lam", "f", left, V0), ("pi", "f", left, left))

    def test_recursors(self):
        for name in ("nat", "list", "vec", "tree", "ord", "pair", "mix", "bool"):
            for level in (0, 1, 2, 12):
                kind = recursor_kind(SIGNATURE.data[name], level)
                self.expect(("rec", name, level), Reckoner(SIGNATURE).normal(kind))
        for name in ("false", "eq", "acc"):
            self.expect(("rec", name, 0), Reckoner(SIGNATURE).normal(recursor_kind(SIGNATURE.data[name], 0)))
            self.refuse(("rec", name, 1), ("rec", name, 12))
        self.expect(
            applied(("rec", "nat", 3), into(("sort", 2)), TYPE),
            arrow(pi(("n", NAT), arrow(("sort", 2), ("sort", 2))), arrow(NAT, ("sort", 2))),
        )
        self.refuse(applied(REC, into(TYPE)), applied(REC, into(NAT), TRUE), applied(("rec", "nat", 0), into(NAT)))


def one_of(kind):
    """Return a term of a kind, by a recursor into it from a proof that does not exist but as a variable's."""
    return applied(
        ("rec", "nat", 1),
        lam(("_", NAT), kind),
        applied(("const", "any"), kind),
        lam(("k", NAT), ("h", kind), V0),
        ZERO,
    )


SIGNATURE = SIGNATURE.copied()
SIGNATURE.add_axiom("any", pi(("A", TYPE), V0))


class TestContexts(unittest.TestCase):
    def test_variables_of_a_context(self):
        checker = Checker(SIGNATURE)
        self.assertEqual(checker.row(()), ())
        context = checker.bind((), "A", checker.value(TYPE, ()))
        context = checker.bind(context, "x", checker.value(V0, checker.row(context)))
        self.assertEqual([row[0] for row in context], ["x", "A"])
        self.assertEqual(checker.row(context), (("stuck", ("free", 1), ()), ("stuck", ("free", 0), ())))
        self.assertEqual(checker.infer(V1, context), TYPE)
        self.assertEqual(checker.infer(V0, context), ("stuck", ("free", 0), ()))
        self.assertEqual(checker.back(checker.infer(V0, context), 2), V1)
        self.assertTrue(same(checker.back(checker.infer(lam(("y", V1), V1), context), 2), arrow(V1, V1)))
        with self.assertRaises(KindFault):
            checker.infer(V2, context)

    def test_kinds_are_values(self):
        checker = Checker(SIGNATURE)
        nat = ("stuck", NAT, ())
        self.assertEqual(checker.infer(ZERO), nat)
        self.assertEqual(checker.infer(TYPE), ("sort", 2))
        found = checker.infer(NEXT)
        self.assertEqual((found[0], found[2]), ("pi", nat))
        self.assertEqual(checker.enter(found[3], checker.value(ZERO, ())), nat)
        self.assertEqual(
            checker.infer(applied(REFL, NAT, num(1))),
            ("stuck", EQ, (nat, checker.value(num(1), ()), checker.value(num(1), ()))),
        )

    def test_a_value_in_the_context(self):
        checker = Checker(SIGNATURE)
        context = (("x", checker.value(NAT, ()), checker.value(num(2), ())),)
        self.assertEqual(checker.row(context), (checker.value(num(2), ()),))
        self.assertEqual(checker.back(checker.infer(applied(REFL, NAT, V0), context), 0), equal(NAT, num(2), num(2)))


class TestWork(unittest.TestCase):
    def test_just_as_many_steps(self):
        declarations = (
            ("axiom", "new", to(NAT, NAT)),
            ("def", "new", equal(NAT, applied(PLUS, num(1), num(1)), num(2)), applied(REFL, NAT, num(2))),
            ("data", "new", (), (), 1, (("made", (("x", NAT), ("y", ("const", "new"))), ()),)),
        )
        for declaration in declarations:
            first = Checker(stock())
            first.add(declaration)
            exact = Checker(stock(), first.steps)
            exact.add(declaration)
            self.assertEqual(exact.signature.shown()[-1], declaration)
            for less in range(first.steps):
                signature = stock()
                with self.assertRaises(WorkFault):
                    Checker(signature, less).add(declaration)
                self.assertEqual(signature.shown(), ROWS)

    def test_great_numbers_that_need_not_be_reckoned(self):
        great = applied(TIMES, num(40), num(40))
        Checker(stock()).add(("def", "new", equal(NAT, great, great), applied(REFL, NAT, great)))
        Checker(stock()).add(
            ("def", "new", equal(NAT, applied(PLUS, num(40), num(40)), num(80)), applied(REFL, NAT, num(80)))
        )

    def test_each_declaration_has_the_whole_bound(self):
        checker = Checker(stock(), 3000)
        for number in range(60):
            checker.add(
                ("def", f"new{number}", equal(NAT, applied(PLUS, num(9), num(9)), num(18)), applied(REFL, NAT, num(18)))
            )
            checker.kind_term(applied(REFL, NAT, num(18)))
        self.assertGreater(checker.steps, 3000)


class TestCheckAll(unittest.TestCase):
    def test_all(self):
        self.assertEqual(check_all(ROWS).shown(), ROWS)
        self.assertEqual(check_all(list(ROWS)).shown(), ROWS)
        self.assertEqual(check_all(()).shown(), ())
        self.assertIsInstance(check_all(()), Signature)

    def test_what_checking_raises(self):
        with self.assertRaises(NameFault):
            check_all(ROWS[1:])
        with self.assertRaises(NameFault):
            check_all(ROWS + (ROWS[0],))
        with self.assertRaises(KindFault):
            check_all(ROWS + (("axiom", "new", ZERO),))
        with self.assertRaises(TermError):
            check_all(ROWS + ((),))
        with self.assertRaises(WorkFault):
            check_all(ROWS, 5)
        self.assertEqual(check_all(ROWS, 2000).shown(), ROWS)


class TestIsProof(unittest.TestCase):
    def test_proofs(self):
        statement = pi(("n", NAT), equal(NAT, applied(PLUS, V0, ZERO), V0))
        self.assertIs(is_proof(SIGNATURE, ("const", "plus_zero"), statement), True)
        self.assertIs(
            is_proof(SIGNATURE, applied(REFL, NAT, num(3)), equal(NAT, num(3), applied(PLUS, num(1), num(2)))), True
        )
        self.assertIs(is_proof(SIGNATURE, lam(("P", PROP), ("p", V0), V0), pi(("P", PROP), arrow(V0, V0))), True)

    def test_what_is_none(self):
        for term, statement in (
            (applied(REFL, NAT, num(3)), equal(NAT, num(3), num(4))),
            (ZERO, NAT),
            (NAT, TYPE),
            (ZERO, ZERO),
            (("const", "nowhere"), equal(NAT, ZERO, ZERO)),
            (V0, equal(NAT, ZERO, ZERO)),
            (applied(REFL, NAT, ZERO), ("const", "nowhere")),
            (NEXT, to(NAT, NAT)),
            (ZERO, TYPE),
            (("sort", 13), equal(NAT, ZERO, ZERO)),
            (applied(REFL, NAT, TRUE), equal(NAT, ZERO, ZERO)),
        ):
            self.assertIs(is_proof(SIGNATURE, term, statement), False)

    def test_the_signature_stays(self):
        signature = stock()
        is_proof(signature, ("const", "plus_zero"), pi(("n", NAT), equal(NAT, applied(PLUS, V0, ZERO), V0)))
        self.assertEqual(signature.shown(), ROWS)


if __name__ == "__main__":
    unittest.main()
