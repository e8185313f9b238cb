import inspect
import unittest

from kernelstack import elaborate
from kernelstack.elaborate import (
    Elaborator,
    count_implicit,
    deepest,
    has_holes,
    lifted_meta,
    placed,
    put_in_meta,
    renamed,
    same_meta,
)
from kernelstack.errors import HoleFault, KindFault, NameFault, TermError, TextError, WorkFault
from kernelstack.parser import parse_term
from kernelstack.signature import Signature
from kernelstack.terms import lifted, same
from kernelstack.world import world_of
from samples import NAT, NEXT, PROP, SAMPLES, TYPE, V0, V1, V2, V3, ZERO, applied
from stock import lam, num, pi
from texts import WORLD

PLUS, EQ, SEQ, MORE, NONE = (("const", name) for name in ("plus", "eq", "seq", "more", "none"))


def fresh():
    """Return an elaborator of the texts' declarations."""
    return Elaborator(WORLD.signature, WORLD.implicits)


def elaborated(text, context=()):
    """Return the term of a text, without holes."""
    one = fresh()
    term, _ = one.infer(parse_term(text), context)
    return one.finished(term)


class TestInterface(unittest.TestCase):
    def test_names_and_arguments(self):
        for name, told in {
            "new_hole": "(self, context, kind)",
            "full": "(self, term)",
            "infer": "(self, raw, context)",
            "number": "(self, number)",
            "kind_of": "(self, raw, context)",
            "unify": "(self, one, other, context)",
            "are_equal": "(self, one, other, context)",
            "finished": "(self, term)",
        }.items():
            self.assertEqual(str(inspect.signature(vars(Elaborator)[name])), told)
        for name, told in {
            "has_holes": "(term)",
            "deepest": "(term, depth=0)",
            "lifted_meta": "(term, many, start=0)",
            "put_in_meta": "(term, value, start=0)",
            "placed": "(term, values, start=0)",
            "renamed": "(term, places, depth, hole)",
            "same_meta": "(one, other)",
            "count_implicit": "(rows)",
        }.items():
            self.assertEqual(str(inspect.signature(getattr(elaborate, name))), told)
            self.assertEqual(getattr(elaborate, name).__module__, "kernelstack.elaborate")

    def test_fields(self):
        table = {"id": 1}
        one = Elaborator(WORLD.signature, table)
        self.assertIs(one.signature, WORLD.signature)
        self.assertEqual((one.implicits, one.solved, one.kinds, one.contexts, one.steps), (table, {}, {}, {}, 0))


class TestHoles(unittest.TestCase):
    def test_new_holes(self):
        one = fresh()
        first = one.new_hole((), NAT)
        context = (("y", V0, None), ("x", TYPE, None))
        second = one.new_hole(context, V1)
        self.assertEqual((first[0], first[2]), ("meta", ()))
        self.assertEqual(second[2], (V0, V1))
        self.assertNotEqual(first[1], second[1])
        self.assertEqual(one.kinds, {first[1]: NAT, second[1]: V1})
        self.assertEqual(one.contexts, {first[1]: (), second[1]: context})
        self.assertEqual(one.full(second), second)
        self.assertTrue(has_holes(("app", NEXT, first)))
        self.assertFalse(has_holes(lam(("x", NAT), V0)))

    def test_a_hole_applied_to_variables_is_the_other_side(self):
        one = fresh()
        context = (("y", NAT, None), ("x", NAT, None))
        hole = one.new_hole(context, NAT)
        self.assertIsNone(one.unify(hole, applied(PLUS, V0, V1), context))
        self.assertEqual(one.full(hole), applied(PLUS, V0, V1))
        self.assertEqual(list(one.solved), [hole[1]])
        # In another place the hole's variables are other terms.
        self.assertEqual(one.full(("meta", hole[1], (num(1), V3))), applied(PLUS, num(1), V3))
        other = one.new_hole(context, NAT)
        one.unify(applied(NEXT, V0), applied(NEXT, other), context)
        self.assertEqual(one.full(other), V0)

    def test_more_arguments_than_the_context(self):
        one = fresh()
        context = (("y", NAT, None), ("x", NAT, None))
        hole = one.new_hole((), pi(("a", NAT), ("b", NAT), PROP))
        one.unify(applied(hole, V1, V0), applied(EQ, NAT, V0, V1), context)
        self.assertTrue(same(one.full(hole), lam(("a", NAT), ("b", NAT), applied(EQ, NAT, V0, V1))))

    def test_what_is_not_found(self):
        context = (("y", NAT, None), ("x", NAT, None))
        for make, other in (
            (lambda one: one.new_hole((), NAT), V0),
            (lambda one: ("app", NEXT, one.new_hole((), NAT)), ("app", NEXT, V1)),
            (lambda one: ("app", one.new_hole((), pi(("x", NAT), NAT)), ZERO), num(2)),
            (lambda one: applied(one.new_hole((), pi(("x", NAT), ("y", NAT), NAT)), V0, V0), V0),
            (lambda one: applied(PLUS, one.new_hole((), NAT), num(1)), num(3)),
        ):
            one = fresh()
            term = make(one)
            before = dict(one.solved), dict(one.kinds), dict(one.contexts)
            for first, second in ((term, other), (other, term)):
                with self.assertRaises(HoleFault):
                    one.unify(first, second, context)
                self.assertEqual((one.solved, one.kinds, one.contexts), before)
        one = fresh()
        hole = one.new_hole((), NAT)
        with self.assertRaises(HoleFault):
            one.unify(hole, ("app", NEXT, hole), ())

    def test_what_does_not_fit(self):
        one = fresh()
        hole = one.new_hole((), NAT)
        other = one.new_hole((), NAT)
        before = dict(one.solved)
        for first, second in (
            (NAT, ("const", "bool")),
            (applied(NEXT, hole), ZERO),
            (num(1), num(2)),
            (applied(EQ, NAT, hole, num(1)), applied(EQ, NAT, num(2), num(2))),
            (pi(("x", NAT), NAT), NAT),
            (applied(SEQ, hole), NAT),
            (TYPE, PROP),
            (applied(EQ, NAT, hole, applied(NEXT, other)), applied(EQ, NAT, num(2), ZERO)),
        ):
            for pair in ((first, second), (second, first)):
                with self.assertRaises(KindFault):
                    one.unify(*pair, ())
                self.assertEqual(one.solved, before)

    def test_arguments_are_compared_first(self):
        one = fresh()
        hole = one.new_hole((), NAT)
        one.unify(applied(PLUS, hole, num(1)), applied(PLUS, num(2), num(1)), ())
        self.assertEqual(one.full(hole), num(2))
        # Where the arguments do not fit, both sides are reckoned.
        one = fresh()
        hole = one.new_hole((), NAT)
        one.unify(applied(PLUS, num(1), hole), applied(PLUS, num(3), ZERO), ())
        self.assertTrue(one.are_equal(one.full(hole), num(2), ()))

    def test_heads_are_reckoned(self):
        one = fresh()
        hole = one.new_hole((), NAT)
        one.unify(applied(NEXT, hole), applied(PLUS, num(1), num(2)), ())
        self.assertTrue(one.are_equal(one.full(hole), num(2), ()))
        one.unify(("const", "not"), lam(("A", PROP), pi(("_", V0), ("const", "false"))), ())
        hole = one.new_hole((), PROP)
        one.unify(applied(("const", "not"), ("const", "false")), pi(("_", hole), ("const", "false")), ())
        self.assertEqual(one.full(hole), ("const", "false"))

    def test_under_binders(self):
        one = fresh()
        hole = one.new_hole((), PROP)
        one.unify(pi(("x", NAT), hole_under(hole)), pi(("x", NAT), ("const", "false")), ())
        self.assertEqual(one.full(hole), ("const", "false"))
        one = fresh()
        hole = one.new_hole((), NAT)
        with self.assertRaises(HoleFault):
            one.unify(lam(("x", NAT), hole), lam(("x", NAT), V0), ())

    def test_equal_terms(self):
        one = fresh()
        context = (("y", NAT, num(2)), ("x", NAT, None))
        self.assertIs(one.are_equal(applied(PLUS, V0, num(1)), num(3), context), True)
        self.assertIs(one.are_equal(applied(PLUS, V1, num(1)), num(3), context), False)
        self.assertIs(one.are_equal(V0, V1, context), False)

    def test_finished(self):
        one = fresh()
        hole = one.new_hole((), NAT)
        with self.assertRaises(HoleFault):
            one.finished(("app", NEXT, hole))
        one.unify(hole, ZERO, ())
        self.assertEqual(one.finished(("app", NEXT, hole)), num(1))


def hole_under(hole):
    """Return a hole without variables under one more binder."""
    return lifted_meta(hole, 1)


class TestTermsWithHoles(unittest.TestCase):
    def test_without_holes_as_terms(self):
        for term in SAMPLES:
            self.assertEqual(lifted_meta(term, 2, 1), lifted(term, 2, 1))
            self.assertIs(same_meta(term, term), True)
            self.assertIs(has_holes(term), False)
            self.assertEqual(put_in_meta(lifted_meta(term, 1), ZERO), term)

    def test_in_holes(self):
        hole = ("meta", 4, (V0, lam(("x", NAT), V1)))
        self.assertEqual(lifted_meta(hole, 2), ("meta", 4, (V2, lam(("x", NAT), V3))))
        self.assertEqual(put_in_meta(hole, ZERO), ("meta", 4, (ZERO, lam(("x", NAT), ZERO))))
        self.assertIs(same_meta(hole, ("meta", 4, (V0, lam(("y", NAT), V1)))), True)
        self.assertIs(same_meta(hole, ("meta", 5, (V0, lam(("x", NAT), V1)))), False)
        self.assertIs(same_meta(hole, ("meta", 4, (V1, lam(("x", NAT), V1)))), False)
        self.assertIs(same_meta(("meta", 0, ()), ("meta", 1, ())), False)
        self.assertIs(same_meta(("meta", 0, ()), ZERO), False)

    def test_deepest(self):
        self.assertEqual(deepest(NAT), 0)
        self.assertEqual(deepest(applied(V3, V0)), 4)
        self.assertEqual(deepest(lam(("x", NAT), V1)), 1)
        self.assertEqual(deepest(V3, 2), 2)

    def test_placed(self):
        self.assertEqual(placed(V0, (ZERO,)), ZERO)
        self.assertEqual(placed(lam(("x", NAT), applied(V0, V1)), (V3,)), lam(("x", NAT), applied(V0, ("var", 4))))
        self.assertEqual(placed(applied(V0, V1), (ZERO, NAT)), applied(ZERO, NAT))
        self.assertEqual(placed(applied(V0, V1), (ZERO,), 1), applied(V0, lifted(ZERO, 1)))

    def test_renamed(self):
        self.assertEqual(renamed(applied(V1, V3), {1: 0, 3: 1}, 0, 9), applied(V0, V1))
        self.assertIsNone(renamed(applied(V1, V2), {1: 0, 3: 1}, 0, 9))
        self.assertEqual(renamed(lam(("x", V1), applied(V0, V2)), {1: 0}, 0, 9), lam(("x", V0), applied(V0, V1)))
        self.assertIsNone(renamed(applied(NEXT, ("meta", 9, ())), {}, 0, 9))
        self.assertEqual(
            renamed(applied(NEXT, ("meta", 8, (V1,))), {1: 5}, 0, 9), applied(NEXT, ("meta", 8, (("var", 5),)))
        )

    def test_implicit_rows(self):
        for flags, told in (((), 0), ((False,), 0), ((True,), 1), ((True, True, False), 2), ((False, False), 0)):
            self.assertEqual(count_implicit([("x", None, flag) for flag in flags]), told)
        for flags in ((False, True), (True, False, True)):
            with self.assertRaises(TextError):
                count_implicit([("x", None, flag) for flag in flags])


class TestInfer(unittest.TestCase):
    def expect(self, text, told, context=()):
        """Compare the term of a text with another one."""
        self.assertTrue(same(elaborated(text, context), told), elaborated(text, context))

    def refuse(self, fault, *texts):
        """Raise a failure for a text that is not refused with a fault."""
        for text in texts:
            one = fresh()
            with self.assertRaises(fault, msg=text) as caught:
                one.finished(one.infer(parse_term(text), ())[0])
            self.assertIs(type(caught.exception), fault, text)

    def test_names(self):
        self.expect("O", ZERO)
        self.expect("fun (O : bool) => O", lam(("O", ("const", "bool")), V0))
        self.expect("fun (x : nat) (x : bool) => x", lam(("x", NAT), ("x", ("const", "bool")), V0))
        self.expect("x", V1, (("y", NAT, None), ("x", NAT, None)))
        self.refuse(
            NameFault, "nowhere", "S nowhere", "@nowhere", "rec[nowhere 1]", "rec[S 1]", "fun (x : nowhere) => O"
        )

    def test_kinds_are_told(self):
        for text, told in (
            ("S", pi(("n", NAT), NAT)),
            ("S O", NAT),
            ("nat", TYPE),
            ("Type", ("sort", 2)),
            ("3", NAT),
            ("nat -> nat", TYPE),
            ("forall (A : Prop), A", PROP),
            ("fun (x : nat) => x", pi(("x", NAT), NAT)),
            ("let x : nat := O in x", NAT),
        ):
            one = fresh()
            term, kind = one.infer(parse_term(text), ())
            self.assertTrue(same(one.full(kind), told), text)

    def test_numbers(self):
        self.expect("0", ZERO)
        self.expect("3", num(3))
        self.expect("60", num(60))
        self.assertEqual(fresh().number(60), num(60))
        self.refuse(TextError, "61", "S 61", "999999")
        with self.assertRaises(TextError):
            fresh().number(61)
        for signature in (Signature(), other_nat()):
            with self.assertRaises(NameFault):
                Elaborator(signature, {}).number(0)

    def test_implicit_arguments(self):
        self.expect("id O", applied(("const", "id"), NAT, ZERO))
        self.expect("@id nat O", applied(("const", "id"), NAT, ZERO))
        self.expect("more O none", applied(MORE, NAT, ZERO, applied(NONE, NAT)))
        self.expect(
            "more true (more false_b none)",
            applied(
                MORE,
                ("const", "bool"),
                ("const", "true"),
                applied(MORE, ("const", "bool"), ("const", "false_b"), applied(NONE, ("const", "bool"))),
            ),
        )
        self.expect("@none nat", applied(NONE, NAT))
        self.expect("seq nat", applied(SEQ, NAT))
        self.expect("@id", ("const", "id"))
        self.expect("id S O", applied(("const", "id"), pi(("x", NAT), NAT), NEXT, ZERO))
        self.expect("id (id O)", applied(("const", "id"), NAT, applied(("const", "id"), NAT, ZERO)))
        self.expect("nil nat", applied(("const", "nil"), NAT))
        self.refuse(KindFault, "more O (more true none)", "@id O", "nil O", "@more O none", "id O O")
        self.refuse(HoleFault, "id", "none", "more", "id ?")

    def test_holes(self):
        self.expect("@id ? O", applied(("const", "id"), NAT, ZERO))
        self.expect("fun (x : ?) => S x", lam(("x", NAT), applied(NEXT, V0)))
        self.expect("fun x => S x", lam(("x", NAT), applied(NEXT, V0)))
        self.expect("forall x, eq nat x O", pi(("x", NAT), applied(EQ, NAT, V0, ZERO)))
        self.expect("forall x y, eq ? x (S y)", pi(("x", NAT), ("y", NAT), applied(EQ, NAT, V1, applied(NEXT, V0))))
        self.expect("refl ? O", applied(("const", "refl"), NAT, ZERO))
        self.expect("cons ? O (nil ?)", applied(("const", "cons"), NAT, ZERO, applied(("const", "nil"), NAT)))
        self.expect(
            "vcons ? ? true (vnil ?)",
            applied(
                ("const", "vcons"),
                ("const", "bool"),
                ZERO,
                ("const", "true"),
                applied(("const", "vnil"), ("const", "bool")),
            ),
        )
        self.expect(
            "(fun (f : nat -> nat) => f O) (fun x => x)",
            applied(lam(("f", pi(("x", NAT), NAT)), applied(V0, ZERO)), lam(("x", NAT), V0)),
        )
        self.expect("let x : ? := O in x", ("let", "x", NAT, ZERO, V0))
        self.refuse(
            HoleFault,
            "?",
            "S ?",
            "fun x => x",
            "fun x => O",
            "forall x, nat",
            "refl nat ?",
            "eq nat ? O",
            "? O",
            "fun (f : ?) => f O",
            "nil ?",
            "let x : ? := ? in O",
        )

    def test_a_row_without_a_kind_has_one_of_level_1(self):
        one = fresh()
        term, level = one.kind_of(None, ())
        self.assertEqual((term[0], level, one.kinds[term[1]]), ("meta", 1, TYPE))
        self.assertEqual(fresh().kind_of(parse_term("nat"), ()), (NAT, 1))
        self.assertEqual(fresh().kind_of(parse_term("Type"), ()), (TYPE, 2))
        self.assertEqual(fresh().kind_of(parse_term("false"), ()), (("const", "false"), 0))
        self.refuse(KindFault, "fun A => fun (x : A) => x", "forall A, A -> A")
        with self.assertRaises(KindFault):
            fresh().kind_of(parse_term("O"), ())

    def test_what_does_not_fit(self):
        self.refuse(
            KindFault,
            "S true",
            "S S",
            "O O",
            "nat O",
            "S O O",
            "fun (x : O) => x",
            "forall (x : nat), x",
            "plus O true",
            "let x : nat := true in x",
            "let x : O := O in x",
            "eq nat O true",
            "refl O O",
            "nat -> O",
            "O -> nat",
            "rec[false 1]",
            "rec[eq 1]",
            "Type 11",
            "vcons nat 1 O (vnil nat)",
            "(fun (f : nat -> nat) => f) (fun (x : bool) => O)",
            "fun x => more x (more O (more true none))",
            "(fun (f : nat) => f) (fun x => x)",
        )

    def test_levels_that_there_are_not(self):
        self.refuse(
            TermError,
            "Type 12",
            "Type 500",
            "Type 999999",
            "rec[nat 13]",
            "rec[nowhere 13]",
            "O (Type 12)",
            "fun (x : Type 12) => x",
        )
        self.refuse(NameFault, "rec[nowhere 12]")
        self.assertEqual(fresh().infer(parse_term("rec[nat 12]"), ())[0], ("rec", "nat", 12))

    def test_texts_that_are_too_deep_for_terms(self):
        self.refuse(
            TermError,
            "nowhere" + " x" * 100,
            "let x : nat := " * 100 + "O" + " in x" * 100,
            "let x : " * 1500 + "nat" + " := O in nat" * 1500,
            "fun (" + "a " * 1500 + ": nat) => a",
        )
        self.refuse(NameFault, "nowhere" + " x" * 99)
        for many in (97, 98):
            self.assertEqual(fresh().infer(parse_term("fun (" + "a " * many + ": nat) => a"), ())[0][0], "lam")
        with self.assertRaises(TermError):
            fresh().kind_of(parse_term("forall (" + "a " * 100 + ": nat), nat"), ())

    def test_nothing_is_changed_by_what_is_refused(self):
        one = fresh()
        hole = one.new_hole((), NAT)
        before = dict(one.solved), dict(one.kinds), dict(one.contexts)
        for text in ("S true", "more O (more true none)", "id nowhere", "S 61", "? O"):
            for attempt in (one.infer, one.kind_of):
                with self.assertRaises((KindFault, NameFault, TextError, HoleFault)):
                    attempt(parse_term(text), ())
                self.assertEqual((one.solved, one.kinds, one.contexts), before)
        self.assertEqual(one.full(hole), hole)

    def test_terms_that_grow_without_end(self):
        one = world_of(
            """data nat : Type | O | S (n : nat) end; data pair {A B : Type} : Type | mk (a : A) (b : B) end;
            def dup {A : Type} (a : A) : pair A A := mk a a; axiom un : forall {A : Type}, pair A A -> A;"""
        )
        one.term_of("dup (" * 5 + "O" + ")" * 5)
        for before, inner in (("dup (", "O"), ("un (", "?"), ("(fun x => mk x x) (", "O")):
            for many in (20, 55):
                with self.assertRaises(WorkFault):
                    one.term_of(before * many + inner + ")" * many)
        text = "let x0 : nat := O in "
        for number in range(1, 40):
            text += f"let x{number} : ? := mk x{number - 1} x{number - 1} in "
        with self.assertRaises(WorkFault):
            one.term_of(text + "x39")

    def test_bounds(self):
        # Each local definition has the one before it twice in its value.
        text = "let x0 : nat := O in "
        for number in range(1, 40):
            text += f"let x{number} : nat := plus x{number - 1} x{number - 1} in "
        elaborated(text + "x39")
        with self.assertRaises(WorkFault):
            one = fresh()
            hole = one.new_hole((), NAT)
            tower = num(2)
            for _ in range(12):
                tower = applied(("const", "times"), tower, tower)
            one.unify(applied(PLUS, tower, hole), applied(NEXT, hole), ())


def other_nat():
    """Return a signature in which O and S are axioms."""
    signature = Signature()
    for name, kind in (("nat", TYPE), ("O", NAT), ("S", pi(("n", NAT), NAT))):
        signature.add_axiom(name, kind)
    return signature


if __name__ == "__main__":
    unittest.main()
