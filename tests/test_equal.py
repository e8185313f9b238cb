import inspect
import unittest

from kernelstack.checker import Checker
from kernelstack.equal import Comparer
from kernelstack.errors import WorkFault
from samples import NAT, NEXT, PROP, TYPE, V0, V1, V2, ZERO, applied
from stock import BOOL, EQ, LESS, PLUS, REC, SIGNATURE, TIMES, TRUE, arrow, equal, into, lam, num, pi

SOME, WAY = ("const", "some"), ("const", "way")


class TestEqual(unittest.TestCase):
    def expect(self, one, other, told, depth=0):
        """Compare two terms, both ways."""
        self.assertIs(Comparer(SIGNATURE, 200000).equal_terms(one, other, depth), told, (one, other))
        self.assertIs(Comparer(SIGNATURE, 200000).equal_terms(other, one, depth), told, (other, one))

    def test_interface(self):
        self.assertEqual(str(inspect.signature(Comparer)), "(signature, most)")
        self.assertEqual(str(inspect.signature(vars(Comparer)["equal_terms"])), "(self, one, other, depth=0)")
        comparer = Comparer(SIGNATURE, 10)
        self.assertEqual((comparer.unfoldings, comparer.steps), (0, 0))
        self.assertIs(comparer.signature, SIGNATURE)

    def test_reckoned_differently(self):
        self.expect(applied(PLUS, num(2), num(3)), num(5), True)
        self.expect(applied(PLUS, num(2), num(3)), applied(TIMES, num(5), num(1)), True)
        self.expect(applied(PLUS, num(2), num(3)), num(6), False)
        self.expect(applied(TIMES, num(40), num(40)), applied(TIMES, num(40), applied(PLUS, num(20), num(20))), True)
        self.expect(("const", "two"), num(2), True)
        self.expect(("const", "two"), num(3), False)
        self.expect(("let", "x", NAT, num(1), applied(NEXT, V0)), num(2), True)
        self.expect(("app", lam(("x", NAT), V0), SOME), SOME, True)
        self.expect(applied(LESS, num(2), num(2)), TRUE, True)

    def test_stuck(self):
        self.expect(applied(PLUS, V0, ZERO), V0, False, 1)
        self.expect(applied(PLUS, ZERO, V0), V0, True, 1)
        self.expect(applied(PLUS, num(1), V0), applied(NEXT, V0), True, 1)
        self.expect(V0, V1, False, 2)
        self.expect(("app", WAY, applied(PLUS, num(1), num(1))), ("app", WAY, num(2)), True)
        self.expect(("app", WAY, num(1)), ("app", WAY, num(2)), False)
        self.expect(("app", WAY, SOME), SOME, False)
        self.expect(("app", V0, num(1)), ("app", V1, num(1)), False, 2)
        self.expect(applied(REC, into(NAT), V0), applied(("rec", "nat", 0), into(NAT), V0), False, 1)
        self.expect(("rec", "nat", 1), ("rec", "list", 1), False)
        self.expect(applied(REC, into(("const", "N")), V0), applied(REC, into(NAT), V0), True, 1)

    def test_under_binders(self):
        self.expect(lam(("x", NAT), applied(PLUS, num(1), V0)), lam(("y", ("const", "N")), applied(NEXT, V0)), True)
        self.expect(lam(("x", NAT), V0), lam(("x", BOOL), V0), False)
        self.expect(lam(("x", NAT), V0), lam(("x", NAT), ZERO), False)
        self.expect(pi(("x", NAT), equal(NAT, V0, num(2))), pi(("x", NAT), equal(NAT, V0, ("const", "two"))), True)
        self.expect(pi(("x", NAT), PROP), lam(("x", NAT), PROP), False)
        self.expect(pi(("x", NAT), PROP), pi(("x", NAT), TYPE), False)
        self.expect(pi(("x", NAT), NAT), pi(("x", BOOL), NAT), False)
        self.expect(lam(("x", NAT), lam(("y", NAT), V0)), lam(("x", NAT), lam(("y", NAT), V1)), False)
        self.expect(lam(("x", NAT), V1), lam(("x", NAT), V2), False, 2)

    def test_nothing_else_is_equal(self):
        self.expect(lam(("x", NAT), ("app", NEXT, V0)), NEXT, False)
        self.expect(lam(("x", NAT), ("app", V1, V0)), V0, False, 1)
        # Two proofs of one statement are two terms.
        self.expect(V0, V1, False, 2)
        self.expect(TYPE, PROP, False)

    def test_only_what_is_needed_is_unfolded(self):
        great = applied(TIMES, num(40), num(40))
        for one, other, least, most in (
            (great, great, 0, 0),
            (applied(EQ, NAT, great, V0), applied(EQ, NAT, great, V0), 0, 0),
            (("const", "two"), num(2), 1, 1),
            (num(2), num(2), 0, 0),
            (applied(TIMES, num(40), ("const", "two")), applied(TIMES, num(40), num(2)), 1, 1),
        ):
            comparer = Comparer(SIGNATURE, 200000)
            self.assertIs(comparer.equal_terms(one, other, 1), True)
            self.assertTrue(least <= comparer.unfoldings <= most, comparer.unfoldings)

    def test_bounds(self):
        for one, other in (
            (applied(PLUS, num(2), num(3)), num(5)),
            (num(3), num(4)),
            (PLUS, TIMES),
            (applied(TIMES, num(3), applied(PLUS, num(1), num(1))), applied(TIMES, num(3), num(2))),
        ):
            first = Comparer(SIGNATURE, 200000)
            told = first.equal_terms(one, other)
            self.assertIs(Comparer(SIGNATURE, first.steps).equal_terms(one, other), told)
            for less in range(first.steps):
                with self.assertRaises(WorkFault):
                    Comparer(SIGNATURE, less).equal_terms(one, other)

    def test_great_numbers(self):
        self.expect(applied(PLUS, num(40), num(40)), num(80), True)
        self.expect(applied(PLUS, num(40), num(40)), num(79), False)
        self.expect(applied(TIMES, num(12), num(12)), applied(PLUS, num(72), num(72)), True)
        self.expect(applied(TIMES, num(39), num(40)), applied(TIMES, num(40), num(39)), True)
        self.expect(
            applied(PLUS, num(1), applied(TIMES, num(40), num(40))),
            applied(PLUS, applied(TIMES, num(40), num(40)), num(1)),
            True,
        )
        self.expect(applied(TIMES, num(39), num(40)), applied(TIMES, num(39), num(39)), False)

    def test_a_checker_compares(self):
        self.assertIs(Checker(SIGNATURE).equal_terms(arrow(NAT, NAT), arrow(("const", "N"), NAT)), True)


if __name__ == "__main__":
    unittest.main()
