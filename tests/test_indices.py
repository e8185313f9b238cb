"""Data with indices: vectors by their lengths, their recursors, and proofs by induction over them."""

import unittest

from kernelstack.checker import Checker
from kernelstack.errors import KindFault, StepFault
from kernelstack.terms import same
from kernelstack.values import Reckoner
from kernelstack.world import world_of
from naive_kernel import Naive
from samples import NAT, V0, V1, V2, V3, ZERO, applied
from stock import lam, num, pi
from texts import BASE, world

MORE = """
data vect {A : Type} : nat -> Type
  | none : vect A O
  | some {n : nat} (a : A) (v : vect A n) : vect A (S n) end;
def count (A : Type) (n : nat) (v : vec A n) : nat :=
  rec[vec 1] A (fun n v => nat) 0 (fun n a v h => S h) n v;
def sum (n : nat) (v : vec nat n) : nat := rec[vec 1] nat (fun n v => nat) 0 (fun n a v h => plus a h) n v;
def join (A : Type) (n m : nat) (v : vec A n) (w : vec A m) : vec A (plus n m) :=
  rec[vec 1] A (fun k x => vec A (plus k m)) w (fun k a x h => vcons A (plus k m) a h) n v;
def map {A B : Type} (f : A -> B) (n : nat) (v : vec A n) : vec B n :=
  rec[vec 1] A (fun k x => vec B k) (vnil B) (fun k a x h => vcons B k (f a) h) n v;
def first (A : Type) (n : nat) (v : vec A (S n)) : A :=
  rec[vec 1] A (fun k x => rec[nat 2] (fun i => Type) nat (fun i (h : Type) => A) k) 0 (fun k a x h => a) (S n) v;
theorem counted (A : Type) (n : nat) (v : vec A n) : eq nat (count A n v) n by
  induction v, exact refl ? ?, apply cong nat nat S, exact h;
theorem mapped (A B : Type) (f : A -> B) (n : nat) (v : vec A n) : eq nat (count B n (map f n v)) n by
  induction v, exact refl ? ?, apply cong nat nat S, exact h;
"""

WORLD = world_of(BASE.replace("| none", "| no") + MORE)
VECTOR = "vcons nat 2 5 (vcons nat 1 3 (vcons nat 0 4 (vnil nat)))"
VEC = ("const", "vec")


class TestVectors(unittest.TestCase):
    def test_kinds(self):
        self.assertEqual(WORLD.kind_text("vnil"), "forall (A : Type), @vec A @O")
        self.assertEqual(
            WORLD.kind_text("vcons"), "forall (A : Type), forall (n : @nat), A -> (@vec A n) -> @vec A (@S n)"
        )
        self.assertEqual(WORLD.kind_text(VECTOR), "@vec @nat (@S (@S (@S @O)))")
        self.assertEqual(WORLD.implicits["some"], 2)
        self.assertEqual(WORLD.kind_text("some O (some 1 none)"), "@vect @nat (@S (@S @O))")
        self.assertEqual(
            WORLD.kind_text("join nat 3 3 (%s) (%s)" % (VECTOR, VECTOR)), "@vec @nat (@S (@S (@S (@S (@S (@S @O))))))"
        )
        for text in (
            "vcons nat 1 5 (vnil nat)",
            "vcons nat 0 true (vnil nat)",
            "vcons bool 0 5 (vnil ?)",
            "sum 2 (%s)" % VECTOR,
            "first nat 0 (vnil nat)",
            "some O (some true none)",
        ):
            with self.assertRaises(KindFault):
                WORLD.term_of(text)

    def test_recursors_are_reckoned(self):
        for text, told in (
            ("count nat 3 (%s)", num(3)),
            ("sum 3 (%s)", num(12)),
            ("first nat 2 (%s)", num(5)),
            ("sum 6 (join nat 3 3 (%s) (%s))", num(24)),
            ("sum 3 (map (fun x => times x 2) 3 (%s))", num(24)),
            ("count nat 3 (map S 3 (%s))", num(3)),
        ):
            term, _ = WORLD.term_of(text.replace("%s", VECTOR))
            self.assertEqual(Reckoner(WORLD.signature).normal(term), told)

    def test_on_a_variable(self):
        term, _ = WORLD.term_of("fun (n : nat) (v : vec nat n) => sum (S n) (vcons nat n 2 v)")
        naive = Naive()
        for row in WORLD.signature.shown():
            naive.add(row)
        found = Reckoner(WORLD.signature).normal(term)
        self.assertTrue(same(found, naive.normal(term)))
        stuck = applied(("rec", "vec", 1), NAT, lam(("n", NAT), ("v", applied(VEC, NAT, V0)), NAT), ZERO)
        self.assertEqual(found[3][3][1], ("const", "S"))
        self.assertEqual(found[3][3][2][1], ("const", "S"))
        inner = found[3][3][2][2]
        self.assertTrue(same(inner[1][1][1], stuck))
        self.assertEqual((inner[1][2], inner[2]), (V1, V0))

    def test_the_recursor_s_kind(self):
        kind = Checker(WORLD.signature).kind_term(("rec", "vec", 1))
        told = pi(
            ("A", ("sort", 1)),
            ("P", pi(("n", NAT), ("v", applied(VEC, V1, V0)), ("sort", 1))),
            ("_", applied(V0, ZERO, applied(("const", "vnil"), V1))),
            (
                "_",
                pi(
                    ("n", NAT),
                    ("a", V3),
                    ("v", applied(VEC, ("var", 4), V1)),
                    ("h", applied(("var", 4), V2, V0)),
                    applied(
                        ("var", 5), applied(("const", "S"), V3), applied(("const", "vcons"), ("var", 6), V3, V2, V1)
                    ),
                ),
            ),
            ("n", NAT),
            ("v", applied(VEC, ("var", 4), V0)),
            applied(("var", 4), V1, V0),
        )
        self.assertTrue(same(kind, told))

    def test_all_is_good_for_a_naive_kernel(self):
        naive = Naive()
        for row in WORLD.signature.shown():
            naive.add(row)
        self.assertEqual(WORLD.theorems[-2:], ["counted", "mapped"])


class TestInduction(unittest.TestCase):
    def test_without_the_hypothesis(self):
        for text in (
            "theorem new (A : Type) (n : nat) (v : vec A n) : eq nat (count A n v) n by cases v, exact refl ? ?,"
            " apply cong nat nat S, exact h;",
            "theorem new (A : Type) (n : nat) (v : vec A n) : eq nat (count A n v) n by induction v, exact refl ? ?,"
            " exact refl ? ?;",
            "theorem new (A : Type) (n : nat) (v : vec A n) : eq nat (count A n v) (S n) by induction v,"
            " exact refl ? ?, apply cong nat nat S, exact h;",
        ):
            with self.assertRaises(StepFault):
                WORLD.copied().add_text(text)

    def test_the_index_is_exchanged_too(self):
        one = WORLD.copied()
        one.add_text(
            "theorem new (A : Type) (P : nat -> Prop) (p : P O) (s : forall (n : nat), P n -> P (S n)) (n : nat)"
            " (v : vec A n) : P n by induction v, exact p, apply s, exact h;"
        )
        with self.assertRaises(StepFault):
            one.add_text(
                "theorem new2 (A : Type) (P : nat -> Prop) (p : P O) (n : nat) (v : vec A n) : P n by"
                " induction v, exact p, exact p;"
            )

    def test_equality_as_data_with_an_index(self):
        one = world()
        one.add_text(
            "theorem turned (A : Type) (a b : A) : eq A a b -> eq A b a by intro p, cases p, exact refl ? ?;"
            "theorem joined (A : Type) (a b c : A) : eq A a b -> eq A b c -> eq A a c by"
            " intro p q, induction q, exact p;"
            "theorem carried (A : Type) (P : A -> Prop) (a b : A) : eq A a b -> P a -> P b by"
            " intro p, cases p, intro x, exact x;"
        )
        with self.assertRaises(StepFault):
            one.add_text(
                "theorem new (A : Type) (P : A -> Prop) (a b : A) : eq A a b -> P a -> P b by"
                " intro p x, cases p, exact refl ? ?;"
            )
        naive = Naive()
        for row in one.signature.shown():
            naive.add(row)

    def test_a_goal_that_would_have_no_kind(self):
        # The index stands in the kind of another variable of the goal, where it is not exchanged.
        one = WORLD.copied()
        with self.assertRaises(StepFault):
            one.add_text(
                "theorem new (A : Type) (n : nat) (v w : vec A n) : eq (vec A n) w w by cases v, exact refl ? ?,"
                " exact refl ? ?;"
            )


if __name__ == "__main__":
    unittest.main()
