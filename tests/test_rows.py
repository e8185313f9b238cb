"""Rows without a kind: their kinds are of level 1, wherever they stand, and however late these are found."""

import unittest

from kernelstack.elaborate import Elaborator
from kernelstack.errors import HoleFault, KindFault, StepFault
from kernelstack.parser import Reader, parse_term
from kernelstack.proof import Proof
from kernelstack.world import world_of
from samples import NAT
from texts import state

TEXT = """
data nat : Type | O | S (n : nat) end;
data pair {A B : Type} (a : A) (b : B) : Type | mk end;
axiom p : Prop; axiom q : p; axiom pp : p -> Prop; axiom g : nat -> Prop; axiom k : Type -> Prop;
axiom same : forall {A : Type} (a b : A), Prop; axiom any : forall {A : Prop} (a : A), Prop;
def id0 (A : Prop) (a : A) : A := a; def id2 (A : Type 1) (a : A) : A := a;
"""


class TestRows(unittest.TestCase):
    def refuse(self, fault, *texts):
        """Test that texts are refused with a fault, and that nothing changes."""
        for text in texts:
            world = world_of(TEXT)
            before = state(world)
            with self.subTest(text), self.assertRaises(fault):
                world.add_text(text)
            self.assertEqual(state(world), before)

    def test_other_levels(self):
        self.refuse(
            KindFault,
            "axiom b : forall x, pp x;",
            "axiom b : forall n x, pp x;",
            "axiom b : forall x, k x;",
            "axiom b : forall x, any x;",
            "axiom b : (forall x, pp x) -> nat;",
            "def i : p -> p := fun h => h;",
            "def i : p -> nat := fun h => O;",
            "def i (f : (p -> p) -> p) : p := f (fun h => h);",
            "def i : p := (fun h => h) q;",
            "def i : p := id0 (p -> p) (fun h => h) q;",
            "def i : p := let f : p -> p := fun h => h in f q;",
            "def i : forall (A : Type), A -> A := fun A a => a;",
            "def i : forall (A : Type 1), A -> A := fun (A : Type 1) x => x;",
            "def i : (g O -> g O) -> nat := fun h => O;",
            "def i x : pp x -> nat := fun (h : pp x) => O;",
            "theorem i x : pp x -> pp x := fun (h : pp x) => h;",
            "theorem i x : pp x -> pp x by intro h, exact h;",
            "data new : Type | c x (h : pp x) end;",
            "data new x (h : pp x) : Type end;",
            "data new : forall x, pp x -> Type end;",
        )
        self.refuse(StepFault, "theorem i : p -> p by exact fun h => h;", "theorem i : p -> p by apply fun h => h;",
                    "theorem i : p by have f : forall x, pp x, exact q, exact q;")

    def test_level_1(self):
        world = world_of(TEXT)
        world.add_text("""
            axiom b : forall x, g x;
            def i : nat -> nat := fun n => n;
            def j : (nat -> nat) -> nat -> nat := fun f n => f (f n);
            def l : forall (A : Type), A -> A := fun (A : Type) a => a;
            def m n : g n -> nat := fun (h : g n) => n;
            theorem t : nat -> g O -> g O := fun n (h : g O) => h;
            theorem u : nat -> p by exact fun n => q;
            data new : Type | c x (h : g x) end;
            """)
        self.assertEqual(world.signature.kind_of("b"), ("pi", "x", NAT, ("app", ("const", "g"), ("var", 0))))

    def test_told_kinds(self):
        world = world_of(TEXT)
        world.add_text("""
            axiom b : forall (x : p), pp x;
            def i : p -> p := fun (h : p) => h;
            def j : forall (A : Type 1), A -> A := fun (A : Type 1) (x : A) => x;
            def l : p -> p := fun (h : ?) => h;
            axiom c : forall (x : ?), pp x;
            """)

    def test_kinds_that_are_found_later(self):
        # What the row's kind is hangs on a hole that is filled in only afterwards.
        self.refuse(KindFault, "axiom b : forall (A : ?) (f : A -> p) x, pp (f x);",
                    "def i : pair (fun x => x) q := mk;")
        self.refuse(HoleFault, "axiom b : forall x, nat;", "def i : nat := (fun x => O) ?;")

    def test_what_is_refused_changes_nothing(self):
        world = world_of(TEXT)
        one = Elaborator(world.signature, world.implicits)
        before = (dict(one.solved), dict(one.kinds), dict(one.contexts), one.steps)
        for call in (lambda: one.infer(parse_term("fun x => id0 p x"), ()),
                     lambda: one.kind_of(parse_term("forall x, pp x"), ())):
            with self.assertRaises(KindFault):
                call()
            self.assertEqual((one.solved, one.kinds, one.contexts, one.steps), before)
        self.assertEqual(one.kind_of(None, ())[1], 1)
        term, kind = one.infer(parse_term("fun x => S x"), ())
        self.assertEqual(one.finished(term)[2], NAT)

    def test_unify_keeps_to_the_level(self):
        world = world_of(TEXT)
        one = Elaborator(world.signature, world.implicits)
        hole, level = one.kind_of(None, ())
        self.assertEqual(level, 1)
        with self.assertRaises(KindFault):
            one.unify(hole, ("const", "p"), ())
        with self.assertRaises(KindFault):
            one.unify(hole, ("sort", 1), ())
        one.unify(hole, NAT, ())
        self.assertEqual(one.finished(hole), NAT)

    def test_levels_found_in_later_steps(self):
        world = world_of(TEXT)
        proof = Proof(world.signature, world.implicits, (), ("const", "p"))
        proof.step(Reader("exact (fun x => q) ?").proof_step())
        goals = list(proof.goals)
        for text in ("exact q", "apply q"):
            before = proof.term
            with self.assertRaises(StepFault):
                while True:
                    proof.step(Reader(text).proof_step())
            self.assertEqual((proof.goals, proof.term), (goals, before))


if __name__ == "__main__":
    unittest.main()
