"""Every refusal of declarations, each with its own fault, next to one that just fits."""

import unittest

from kernelstack.checker import Checker
from kernelstack.data import Data, constructor_kind, recursor_kind
from kernelstack.errors import DataFault, KindFault, NameFault, TermError
from kernelstack.signature import WORDS
from kernelstack.terms import arrow, same
from kernelstack.values import Reckoner
from samples import NAT, NEXT, PROP, TYPE, TYPE1, V0, V1, V2, ZERO, applied, broad, chain
from stock import BOOL, EQ, LIST, PLUS, REFL, ROWS, TRUE, VEC, equal, lam, num, pi, stock, to

NEW = ("const", "new")


def data(params=(), indices=(), level=1, constructors=(), name="new"):
    """Return a declaration of data."""
    return ("data", name, params, indices, level, constructors)


def made(*fields, targets=()):
    """Return data without parameters with one constructor of fields."""
    return data(constructors=(("mk", tuple((f"f{place}", kind) for place, kind in enumerate(fields)), targets),))


class Declaring(unittest.TestCase):
    def fits(self, *declarations):
        """Raise a failure for a declaration that is refused."""
        for declaration in declarations:
            signature = stock()
            self.assertIsNone(Checker(signature).add(declaration))
            self.assertEqual(signature.shown(), ROWS + (declaration,))

    def refuse(self, fault, *declarations):
        """Raise a failure for a declaration that is not refused with a fault, or changes something."""
        for declaration in declarations:
            signature = stock()
            checker = Checker(signature)
            with self.assertRaises(fault, msg=declaration) as caught:
                checker.add(declaration)
            self.assertIs(type(caught.exception), fault, declaration)
            whole = stock()
            self.assertIs(checker.signature, signature)
            self.assertEqual(
                (signature.kinds, signature.bodies, signature.data, signature.owners, signature.order),
                (whole.kinds, whole.bodies, whole.data, whole.owners, whole.order),
            )


class TestForm(Declaring):
    def test_no_declarations(self):
        self.refuse(
            TermError,
            (),
            None,
            5,
            "axiom",
            ["axiom", "new", NAT],
            ("theorem", "new", NAT, ZERO),
            ("AXIOM", "new", NAT),
            ("axiom",),
            ("axiom", "new"),
            ("axiom", "new", NAT, ZERO),
            ("def", "new", NAT),
            ("def", "new", NAT, ZERO, ZERO),
            (("axiom",), "new", NAT),
            (1, "new", NAT),
        )

    def test_no_terms(self):
        for term in (None, (), ("sort", 13), ("app", NEXT), chain(101), broad(20001), ("meta", 0, ())):
            self.refuse(
                TermError,
                ("axiom", "new", term),
                ("def", "new", NAT, term),
                ("def", "new", term, ZERO),
                data((("A", term),)),
                data((), (("k", term),)),
                made(term),
                data((), (("k", NAT),), 1, (("mk", (), (term,)),)),
            )

    def test_names(self):
        for name in ("x" * 40, "_", "a'", "Prop1", "x.y"):
            self.fits(
                ("axiom", name, NAT), ("def", name, NAT, ZERO), data(name=name), data(constructors=((name, (), ()),))
            )
        for name in ("x" * 41, "", "1", "'a", "a b", "O", "plus", "nat", "eq", "some") + WORDS:
            self.refuse(
                NameFault,
                ("axiom", name, NAT),
                ("def", name, NAT, ZERO),
                data(name=name),
                data(constructors=((name, (), ()),)),
                data(constructors=(("fine", (), ()), (name, (), ()))),
            )


class TestPlain(Declaring):
    def test_axioms(self):
        self.fits(
            ("axiom", "new", NAT),
            ("axiom", "new", PROP),
            ("axiom", "new", ("sort", 11)),
            ("axiom", "new", pi(("n", NAT), equal(NAT, V0, V0))),
        )
        self.refuse(
            KindFault,
            ("axiom", "new", ZERO),
            ("axiom", "new", ("sort", 12)),
            ("axiom", "new", V0),
            ("axiom", "new", applied(NAT, ZERO)),
            ("axiom", "new", lam(("x", NAT), NAT)),
        )
        self.refuse(NameFault, ("axiom", "new", NEW), ("axiom", "new", ("const", "nowhere")))

    def test_definitions(self):
        self.fits(
            ("def", "new", NAT, num(2)),
            ("def", "new", ("const", "N"), ZERO),
            ("def", "new", TYPE, NAT),
            ("def", "new", equal(NAT, num(2), num(2)), applied(REFL, NAT, applied(PLUS, num(1), num(1)))),
            ("def", "new", ("sort", 11), ("sort", 10)),
            ("def", "new", to(NAT, NAT), lam(("x", ("const", "N")), V0)),
            ("def", "new", to(NAT, NAT), ("let", "y", NAT, num(2), lam(("x", NAT), applied(PLUS, V0, V1)))),
        )
        self.refuse(
            KindFault,
            ("def", "new", NAT, TRUE),
            ("def", "new", ZERO, ZERO),
            ("def", "new", BOOL, ZERO),
            ("def", "new", ("sort", 12), ("sort", 11)),
            ("def", "new", NAT, V0),
            ("def", "new", TYPE, TYPE),
            ("def", "new", PROP, NAT),
            ("def", "new", TYPE, equal(NAT, ZERO, ZERO)),
            ("def", "new", equal(NAT, num(2), num(3)), applied(REFL, NAT, num(2))),
            ("def", "new", to(NAT, NAT), lam(("x", BOOL), ZERO)),
            ("def", "new", to(NAT, NAT), lam(("x", NAT), TRUE)),
            ("def", "new", NAT, lam(("x", NAT), V0)),
        )
        self.refuse(NameFault, ("def", "new", NAT, NEW), ("def", "new", NEW, ZERO))

    def test_definitions_are_unfolded_afterwards(self):
        checker = Checker(stock())
        checker.add(("def", "three", NAT, num(3)))
        checker.add(("def", "new", equal(NAT, ("const", "three"), num(3)), applied(REFL, NAT, num(3))))
        checker.add(("axiom", "four", NAT))
        with self.assertRaises(KindFault):
            checker.add(("def", "new2", equal(NAT, ("const", "four"), num(4)), applied(REFL, NAT, num(4))))


class TestData(Declaring):
    def test_rows(self):
        self.refuse(
            DataFault,
            ("data",),
            ("data", "new"),
            data()[:5],
            data() + ((),),
            data(params=None),
            data(params=[("A", TYPE)]),
            data(params=(("A",),)),
            data(params=(("A", TYPE, TYPE),)),
            data(params=(V0[:1],)),
            data(params=((1, TYPE),)),
            data(indices=None),
            data(indices=[]),
            data(indices=(["k", NAT],)),
            data(constructors=None),
            data(constructors=[]),
            data(constructors=("mk",)),
            data(constructors=(("mk",),)),
            data(constructors=(("mk", ()),)),
            data(constructors=(["mk", (), ()],)),
            data(constructors=(("mk", (), (), ()),)),
            data(constructors=(("mk", None, ()),)),
            data(constructors=(("mk", [], ()),)),
            data(constructors=(("mk", (("x",),), ()),)),
            data(constructors=(("mk", (), None),)),
            data(constructors=(("mk", (), []),)),
        )

    def test_levels(self):
        for level in range(12):
            self.fits(data(level=level), data(level=level, constructors=(("mk", (), ()),)))
        self.refuse(DataFault, data(level=12), data(level=13), data(level=-1), data(level=None), data(level="1"))

    def test_many_constructors(self):
        many = tuple((f"mk{number}", (), ()) for number in range(21))
        self.fits(data(constructors=many[:20]), data())
        self.refuse(DataFault, data(constructors=many))

    def test_names_twice(self):
        self.refuse(
            DataFault,
            data(constructors=(("new", (), ()),)),
            data(constructors=(("a", (), ()), ("b", (), ()), ("a", (), ()))),
        )
        self.fits(data(params=(("x", TYPE), ("x", TYPE)), constructors=(("x", (("x", NAT), ("x", NAT)), ()),)))

    def test_levels_of_fields(self):
        for level in range(1, 12):
            # The kind of sort n - 1 is of level n, and sort n - 1 itself is a kind of level n.
            self.fits(data(level=level, constructors=(("mk", (("x", ("sort", level - 1)),), ()),)))
            self.refuse(KindFault, data(level=level, constructors=(("mk", (("x", ("sort", level)),), ()),)))
        self.fits(made(NAT), made(NAT, equal(NAT, V0, V0)), made(PROP), made(arrow(NAT, PROP)))
        self.refuse(KindFault, made(TYPE), made(arrow(TYPE, NAT)), made(NAT, TYPE), made(arrow(NAT, TYPE)))

    def test_data_of_level_0_have_fields_of_any_level(self):
        for level in range(12):
            self.fits(data(level=0, constructors=(("mk", (("x", ("sort", level)),), ()),)))
        self.refuse(KindFault, data(level=0, constructors=(("mk", (("x", ("sort", 12)),), ()),)))

    def test_levels_of_parameters_and_indices(self):
        self.fits(
            data((("A", ("sort", 11)),), (("k", ("sort", 11)),), 1), data((("A", TYPE1),), (), 1, (("mk", (), ()),))
        )
        self.refuse(
            KindFault,
            data((("A", ("sort", 12)),)),
            data((), (("k", ("sort", 12)),)),
            data((("A", TYPE1),), (), 1, (("mk", (("x", V0),), ()),)),
        )
        self.fits(data((("A", TYPE1),), (), 2, (("mk", (("x", V0),), ()),)))

    def test_kinds_that_are_none(self):
        self.refuse(
            KindFault,
            data((("A", ZERO),)),
            data((("A", V0),)),
            data((), (("k", ZERO),)),
            made(ZERO),
            made(V0),
            made(NAT, V0),
            made(applied(NAT, ZERO)),
            made(applied(LIST, ZERO)),
            data((("a", NAT),), (("k", V0),)),
            data((("A", NAT),), (), 1, (("mk", (("x", V0),), ()),)),
            data((), (("k", NAT),), 1, (("mk", (), (TRUE,)),)),
            data((), (("k", NAT),), 1, (("mk", (), (V0,)),)),
            data((), (("k", NAT),), 1, (("mk", (("x", BOOL),), (V0,)),)),
            data((), (("k", NAT),), 1, (("mk", (("x", applied(NEW, TRUE)),), (ZERO,)),)),
        )
        self.refuse(
            NameFault,
            made(("const", "nowhere")),
            data((("A", ("const", "nowhere")),)),
            data(constructors=(("a", (), ()), ("b", (("x", applied(EQ, NAT, ("const", "a"), ZERO)),), ()))),
        )
        self.fits(data((("A", TYPE),), (("k", V0),), 1, (("mk", (("x", V0),), (V0,)),)))

    def test_numbers_of_targets(self):
        rows = (("k", NAT), ("j", NAT))
        self.fits(data((), rows, 1, (("mk", (), (ZERO, ZERO)),)))
        for targets in ((), (ZERO,), (ZERO, ZERO, ZERO)):
            self.refuse(DataFault, data((), rows, 1, (("mk", (), targets),)))
        self.refuse(DataFault, made(targets=(ZERO,)))

    def test_where_the_name_may_stand(self):
        self.fits(
            made(NEW),
            made(NEW, NEW),
            made(arrow(NAT, NEW)),
            made(to(NAT, BOOL, NEW)),
            made(NAT, NEW, NAT),
            made(pi(("n", NAT), arrow(equal(NAT, V0, V0), NEW))),
            data(level=0, constructors=made(NEW)[5]),
        )
        params = (("A", TYPE), ("B", TYPE))
        own = applied(NEW, V1, V0)
        for kind in (own, arrow(NAT, own), arrow(V0, own)):
            self.fits(data(params, (), 1, (("mk", (("x", kind),), ()),)))
        self.fits(data(params, (), 1, (("mk", (("x", NAT), ("y", applied(NEW, V2, V1))), ()),)))
        indexed = data(
            (("A", TYPE),),
            (("k", NAT),),
            1,
            (("mk", (("n", NAT), ("x", applied(NEW, V1, applied(PLUS, V0, ZERO)))), (V1,)),),
        )
        self.fits(indexed)

    def test_where_the_name_may_not_stand(self):
        self.refuse(
            DataFault,
            made(arrow(NEW, NAT)),
            made(arrow(NEW, NEW)),
            made(arrow(arrow(NEW, NAT), NEW)),
            made(arrow(NAT, arrow(NEW, NEW))),
            made(applied(LIST, NEW)),
            made(applied(NEW, ZERO)),
            made(("app", lam(("X", TYPE), V0), NEW)),
            made(("let", "X", TYPE, NEW, V0)),
            made(equal(NEW, ZERO, ZERO)),
            made(arrow(NAT, applied(LIST, NEW))),
            made(lam(("x", NAT), NEW)),
            made(applied(("rec", "new", 1), NAT)),
            made(applied(VEC, NAT, NEW)),
            made(NEW, equal(NEW, V0, V0)),
            data((("A", NEW),)),
            data((("A", arrow(NEW, TYPE)),)),
            data((), (("k", NEW),)),
            data((("A", applied(LIST, NEW)),)),
        )

    def test_parameters_are_just_these(self):
        params = (("A", TYPE), ("B", TYPE))
        for kind in (
            applied(NEW, V0, V1),
            applied(NEW, V0, V0),
            applied(NEW, NAT, V0),
            applied(NEW, V1),
            NEW,
            applied(NEW, V1, V0, V0),
            applied(NEW, applied(lam(("X", TYPE), V0), V1), V0),
            arrow(NAT, applied(NEW, V0, V1)),
            ("pi", "_", NAT, applied(NEW, V1, V0)),
        ):
            self.refuse(DataFault, data(params, (), 1, (("mk", (("x", kind),), ()),)))

    def test_indices_in_fields_and_targets(self):
        def indexed(kind, target=ZERO):
            return data((), (("k", NAT),), 1, (("mk", (("x", kind),), (target,)),))

        self.fits(indexed(applied(NEW, num(3))), indexed(pi(("n", NAT), applied(NEW, V0))))
        count = applied(("rec", "new", 1), NAT)
        self.refuse(
            DataFault,
            indexed(NEW),
            indexed(applied(NEW, ZERO, ZERO)),
            indexed(applied(NEW, count)),
            indexed(NAT, count),
            indexed(NAT, NEW),
            indexed(NAT, applied(lam(("X", TYPE), ZERO), applied(NEW, ZERO))),
            indexed(applied(NEW, applied(lam(("X", TYPE), ZERO), applied(NEW, ZERO)))),
        )

    def test_what_is_added(self):
        signature = stock()
        declaration = data(
            (("A", TYPE),),
            (("k", NAT),),
            2,
            (("one", (("a", V0),), (ZERO,)), ("rest", (("n", NAT), ("f", arrow(BOOL, applied(NEW, V1, V0)))), (V1,))),
        )
        Checker(signature).add(declaration)
        told = Data(*declaration[1:])
        self.assertEqual(signature.data["new"].shown(), declaration)
        self.assertEqual(signature.kinds["new"], pi(("A", TYPE), ("k", NAT), TYPE1))
        for number, name in enumerate(("one", "rest")):
            self.assertEqual(signature.kinds[name], constructor_kind(told, number))
            self.assertEqual(signature.owners[name], "new")
        for level in (0, 1, 5, 12):
            found = Checker(signature).kind_term(("rec", "new", level))
            self.assertTrue(same(found, Reckoner(signature).normal(recursor_kind(told, level))))


if __name__ == "__main__":
    unittest.main()
