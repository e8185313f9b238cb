import inspect
import unittest

from kernelstack.checker import Checker
from kernelstack.errors import KindFault, WorkFault
from kernelstack.terms import apply, arrow, same
from kernelstack.values import Reckoner
from samples import NAT, NEXT, PROP, TYPE, V0, V1, V2, V3, ZERO, applied
from stock import (
    BOOL,
    CONS,
    LENGTH,
    LESS,
    LIST,
    NIL,
    NOT_TRUE,
    ORD,
    PLUS,
    REC,
    SIGNATURE,
    TIMES,
    TREE,
    TRUE,
    VEC,
    into,
    lam,
    num,
    pi,
    stock,
)

SOME, WAY = ("const", "some"), ("const", "way")
FREE = ("stuck", ("free", 0), ())


def chain(kind, *ones):
    """Return the list of terms of a kind."""
    term = applied(NIL, kind)
    for one in reversed(ones):
        term = applied(CONS, kind, one, term)
    return term


class TestNormal(unittest.TestCase):
    def expect(self, term, told, depth=0):
        """Compare the normal term of a term, and its own normal term, with another one."""
        found = Reckoner(SIGNATURE).normal(term, depth)
        self.assertTrue(same(found, told), (found, told))
        self.assertEqual(Reckoner(SIGNATURE).normal(found, depth), found)

    def test_functions_and_local_definitions(self):
        self.expect(("app", lam(("x", NAT), applied(NEXT, V0)), ZERO), num(1))
        self.expect(applied(lam(("A", TYPE), ("x", V0), V0), NAT, ZERO), ZERO)
        self.expect(("let", "x", NAT, num(1), applied(NEXT, V0)), num(2))
        self.expect(
            ("let", "x", NAT, V0, lam(("y", NAT), applied(PLUS, V0, V1))),
            lam(("y", NAT), Reckoner(SIGNATURE).normal(applied(PLUS, V0, V1), 2)),
            1,
        )
        self.expect(
            applied(lam(("f", arrow(NAT, NAT)), lam(("x", NAT), applied(V1, V0))), lam(("y", NAT), V1)),
            lam(("x", NAT), V1),
            1,
        )

    def test_definitions(self):
        self.expect(("const", "two"), num(2))
        self.expect(("const", "N"), NAT)
        self.expect(("const", "id"), lam(("A", TYPE), ("a", V0), V0))
        self.expect(applied(PLUS, ("const", "two"), num(3)), num(5))
        self.expect(applied(TIMES, num(3), num(4)), num(12))
        self.expect(applied(LESS, num(3), num(4)), TRUE)
        self.expect(applied(LESS, num(4), num(3)), NOT_TRUE)

    def test_numbers(self):
        for one, other in ((0, 0), (0, 7), (7, 0), (40, 40), (39, 1)):
            self.expect(applied(PLUS, num(one), num(other)), num(one + other))
        self.expect(applied(LESS, num(40), num(40)), TRUE)
        self.expect(applied(TIMES, num(10), num(10)), num(100))

    def test_lists_with_a_parameter(self):
        self.expect(applied(LENGTH, BOOL, chain(BOOL, TRUE, NOT_TRUE, TRUE)), num(3))
        joined = lam(
            ("l", applied(LIST, NAT)),
            applied(
                ("rec", "list", 1),
                NAT,
                lam(("_", applied(LIST, NAT)), NAT),
                ZERO,
                lam(("a", NAT), ("l", applied(LIST, NAT)), ("h", NAT), applied(PLUS, V2, V0)),
                V0,
            ),
        )
        self.expect(applied(joined, chain(NAT, num(3), num(4), num(5))), num(12))

    def test_trees_with_several_recursive_fields(self):
        leaf, node = ("app", ("const", "leaf"), NAT), ("const", "node")
        tree = ("app", TREE, NAT)
        goal = lam(("_", tree), NAT)
        # The left value comes before the right one, behind all fields.
        case = lam(
            ("l", tree),
            ("a", NAT),
            ("r", tree),
            ("h", NAT),
            ("g", NAT),
            applied(PLUS, V1, applied(TIMES, num(3), applied(PLUS, V0, V3))),
        )
        one = applied(node, NAT, leaf, num(1), leaf)
        two = applied(node, NAT, one, num(2), leaf)
        three = applied(node, NAT, leaf, num(2), one)
        for term, told in ((leaf, 0), (one, 3), (two, 9), (three, 15)):
            self.expect(applied(("rec", "tree", 1), NAT, goal, case, ZERO, term), num(told))

    def test_fields_that_are_functions(self):
        limit, after, zero = ("const", "limit"), ("const", "next"), ("const", "zero")
        goal = lam(("_", ORD), NAT)
        rec = applied(
            ("rec", "ord", 1),
            goal,
            num(1),
            lam(("o", ORD), ("h", NAT), applied(NEXT, V0)),
            lam(("f", arrow(NAT, ORD)), ("h", arrow(NAT, NAT)), applied(V0, num(2))),
        )
        count = applied(REC, into(ORD), zero, lam(("k", NAT), ("h", ORD), applied(after, V0)))
        self.expect(applied(rec, applied(limit, count)), num(3))
        self.expect(applied(rec, applied(after, applied(limit, lam(("n", NAT), applied(limit, count))))), num(4))
        # What the recursor gives for the field is a function of the field's arguments.
        shown = applied(
            ("rec", "ord", 1),
            lam(("_", ORD), arrow(NAT, NAT)),
            lam(("n", NAT), V0),
            lam(("o", ORD), ("h", arrow(NAT, NAT)), V0),
            lam(("f", arrow(NAT, ORD)), ("h", pi(("n", NAT), arrow(NAT, NAT))), applied(V0, SOME)),
        )
        self.expect(applied(shown, applied(limit, lam(("n", NAT), zero))), lam(("n", NAT), V0))
        # Stuck on what the field gives.
        stuck = Reckoner(SIGNATURE).normal(applied(rec, applied(limit, V0)), 1)
        self.expect(stuck, applied(rec, applied(V0, num(2))), 1)

    def test_fields_with_indices_and_earlier_fields(self):
        vnil, vcons = ("const", "vnil"), ("const", "vcons")
        goal = lam(("k", NAT), ("_", applied(VEC, BOOL, V0)), NAT)
        case = lam(("n", NAT), ("a", BOOL), ("v", applied(VEC, BOOL, V1)), ("h", NAT), applied(PLUS, V3, V0))
        rec = applied(("rec", "vec", 1), BOOL, goal, ZERO, case)
        none = applied(vnil, BOOL)
        one = applied(vcons, BOOL, ZERO, TRUE, none)
        two = applied(vcons, BOOL, num(1), TRUE, one)
        three = applied(vcons, BOOL, num(2), TRUE, two)
        for number, term in enumerate((none, one, two, three)):
            self.expect(applied(rec, num(number), term), num(sum(range(number))))
        # The recursor's value for the field has the field's own index.
        found = Reckoner(SIGNATURE).normal(applied(rec, applied(NEXT, V1), applied(vcons, BOOL, V1, TRUE, V0)), 2)
        self.expect(found, Reckoner(SIGNATURE).normal(applied(PLUS, V1, applied(rec, V1, V0)), 2), 2)

    def test_more_arguments_than_the_recursor_takes(self):
        rec = applied(
            REC,
            lam(("_", NAT), arrow(NAT, NAT)),
            lam(("m", NAT), V0),
            lam(("k", NAT), ("h", arrow(NAT, NAT)), ("m", NAT), applied(NEXT, applied(V1, V0))),
        )
        self.expect(applied(rec, num(3), num(4)), num(7))
        self.expect(applied(rec, SOME, num(4)), Reckoner(SIGNATURE).normal(applied(rec, SOME, num(4))))

    def test_pairs(self):
        pair = applied(("const", "pair"), NAT, BOOL)
        both = applied(("const", "both"), NAT, BOOL, applied(PLUS, num(1), num(1)), TRUE)
        for goal, case, told in (
            (NAT, lam(("a", NAT), ("b", BOOL), V1), num(2)),
            (BOOL, lam(("a", NAT), ("b", BOOL), V0), TRUE),
        ):
            self.expect(applied(("rec", "pair", 1), NAT, BOOL, lam(("_", pair), goal), case, both), told)

    def test_stuck(self):
        for term in (
            SOME,
            ("app", WAY, SOME),
            NEXT,
            NAT,
            PROP,
            V0,
            ("app", V0, num(1)),
            ("rec", "nat", 0),
            ("app", ("rec", "nat", 1), into(NAT)),
            ("app", CONS, NAT),
            ("const", "P"),
        ):
            self.expect(term, term, 1)
        found = Reckoner(SIGNATURE).normal(applied(PLUS, SOME, ZERO))
        self.assertTrue(
            same(found, applied(REC, into(NAT), ZERO, lam(("k", NAT), ("h", NAT), applied(NEXT, V0)), SOME))
        )
        self.expect(applied(PLUS, applied(NEXT, SOME), ZERO), applied(NEXT, found))
        self.expect(("app", WAY, applied(PLUS, num(1), num(1))), ("app", WAY, num(2)))

    def test_under_binders(self):
        redex = ("app", lam(("x", NAT), V0), ZERO)
        self.expect(lam(("n", NAT), redex), lam(("n", NAT), ZERO))
        self.expect(pi(("n", NAT), ("app", ("const", "P"), redex)), pi(("n", NAT), ("app", ("const", "P"), ZERO)))
        self.expect(lam(("n", ("const", "N")), V0), lam(("n", NAT), V0))
        self.expect(pi(("n", ("const", "N")), ("const", "N")), pi(("n", NAT), NAT))
        self.expect(lam(("n", NAT), applied(PLUS, num(1), V0)), lam(("n", NAT), applied(NEXT, V0)))

    def test_nothing_else_is_reckoned(self):
        self.expect(lam(("x", NAT), ("app", NEXT, V0)), lam(("x", NAT), ("app", NEXT, V0)))
        self.expect(lam(("x", NAT), ("app", V1, V0)), lam(("x", NAT), ("app", V1, V0)), 1)

    def test_names_of_binders_are_kept(self):
        self.assertEqual(Reckoner(SIGNATURE).normal(("const", "id")), lam(("A", TYPE), ("a", V0), V0))


class TestValues(unittest.TestCase):
    def test_interface(self):
        for name, told in {
            "step": "(self)",
            "value": "(self, term, row)",
            "enter": "(self, closure, value)",
            "back": "(self, value, depth)",
            "normal": "(self, term, depth=0)",
        }.items():
            self.assertEqual(str(inspect.signature(vars(Reckoner)[name])), told)
        self.assertEqual(str(inspect.signature(Reckoner)), "(signature, most=200000)")

    def test_forms(self):
        reckoner = Reckoner(SIGNATURE)
        zero = ("stuck", ZERO, ())
        self.assertEqual(reckoner.value(TYPE, ()), TYPE)
        self.assertEqual(reckoner.value(("const", "two"), ()), ("stuck", NEXT, (("stuck", NEXT, (zero,)),)))
        self.assertEqual(reckoner.value(V1, (FREE, zero)), zero)
        self.assertEqual(reckoner.value(("app", V1, V0), (zero, FREE)), ("stuck", ("free", 0), (zero,)))
        self.assertEqual(reckoner.value(("rec", "nat", 0), ()), ("stuck", ("rec", "nat", 0), ()))
        for word in ("lam", "pi"):
            value = reckoner.value((word, "x", ("const", "N"), V1), (zero,))
            self.assertEqual(value[:3], (word, "x", ("stuck", NAT, ())))
            self.assertEqual(reckoner.enter(value[3], FREE), zero)

    def test_enter_and_back(self):
        reckoner = Reckoner(SIGNATURE)
        value = reckoner.value(lam(("x", NAT), applied(PLUS, V0, num(1))), ())
        two = reckoner.value(num(2), ())
        self.assertEqual(reckoner.back(reckoner.enter(value[3], two), 0), num(3))
        self.assertEqual(reckoner.back(FREE, 1), V0)
        self.assertEqual(reckoner.back(FREE, 3), V2)
        self.assertEqual(reckoner.back(("stuck", ("free", 2), (FREE,)), 3), ("app", V0, V2))

    def test_what_is_no_function(self):
        for term in (
            ("app", TYPE, ZERO),
            ("app", pi(("x", NAT), NAT), ZERO),
            applied(("const", "id"), NAT, TYPE, ZERO),
        ):
            with self.assertRaises(KindFault):
                Reckoner(SIGNATURE).normal(term)


class TestWork(unittest.TestCase):
    TERMS = (
        ZERO,
        TYPE,
        num(3),
        applied(PLUS, num(3), num(4)),
        ("const", "two"),
        applied(TIMES, num(4), num(4)),
        lam(("n", NAT), applied(PLUS, V0, num(2))),
        ("let", "x", NAT, ZERO, V0),
        applied(LESS, num(3), num(2)),
    )

    def test_just_as_many_steps(self):
        for term in self.TERMS:
            first = Reckoner(SIGNATURE)
            told = first.normal(term)
            self.assertGreater(first.steps, 0)
            exact = Reckoner(SIGNATURE, first.steps)
            self.assertEqual(exact.normal(term), told)
            self.assertEqual(exact.steps, first.steps)
            for less in range(first.steps):
                with self.assertRaises(WorkFault):
                    Reckoner(SIGNATURE, less).normal(term)

    def test_step(self):
        reckoner = Reckoner(SIGNATURE, 3)
        self.assertEqual(reckoner.steps, 0)
        for count in (1, 2, 3):
            self.assertIsNone(reckoner.step())
            self.assertEqual(reckoner.steps, count)
        with self.assertRaises(WorkFault):
            reckoner.step()

    def test_what_does_not_end(self):
        twice = lam(("x", NAT), ("app", V0, V0))
        deep = lam(("x", NAT), applied(NEXT, ("app", V0, V0)))
        for term in (("app", twice, twice), ("app", deep, deep)):
            with self.assertRaises(WorkFault):
                Reckoner(SIGNATURE).normal(term)

    def test_what_is_too_deep(self):
        reckoner = Reckoner(SIGNATURE)
        for _ in range(2):
            with self.assertRaises(WorkFault):
                reckoner.normal(applied(TIMES, num(40), num(40)))
        self.assertEqual(reckoner.normal(applied(PLUS, num(40), num(40))), num(80))

    def test_is_not_reckoned_without_need(self):
        # Each of the recursor's values that a case leaves out would take as long as all those below it.
        self.assertEqual(Reckoner(SIGNATURE, 3000).normal(applied(LESS, num(40), num(39))), NOT_TRUE)

    def test_signature_stays(self):
        signature = stock()
        before = signature.shown()
        Checker(signature).kind_term(apply(PLUS, [num(2), num(3)]))
        self.assertEqual(signature.shown(), before)


if __name__ == "__main__":
    unittest.main()
