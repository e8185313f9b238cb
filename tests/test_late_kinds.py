"""Kinds of holes that are found after they were used: what does not fit them is refused by the step, not later."""

import unittest

from kernelstack.elaborate import Elaborator
from kernelstack.errors import KindFault, StepFault
from kernelstack.parser import Reader, parse_term
from kernelstack.proof import Proof
from kernelstack.session import Session
from kernelstack.world import world_of
from samples import PROP, V0

TEXT = """data nat : Type | O | S (n : nat) end def id {A : Type} (x : A) : A := x;
def two {A B : Type} (f : A -> B) (x : A) : B := f x; axiom P : nat -> Prop; axiom list : Type -> Type;
axiom nil : forall {A : Type}, list A; axiom cons : forall {A : Type}, A -> list A -> list A;
axiom use : forall {A : Type}, list A -> A -> nat;"""
WORLD = world_of(TEXT)
CONTEXT = (("w", V0, None), ("z", PROP, None))


def begun():
    """Return the proof of "z" from a variable w of the statement z."""
    proof = Proof(WORLD.signature, WORLD.implicits, (), WORLD.term_of("forall (z : Prop) (w : z), z")[0])
    proof.step(("intro", ("z", "w")))
    return proof


class TestLateKinds(unittest.TestCase):
    def refuse(self, *steps):
        """Raise a failure if one of some steps is not refused, or changes something."""
        proof = begun()
        one = proof.elaborator
        before = (proof.term, list(proof.goals), proof.many, dict(one.solved), dict(one.kinds), one.kept())
        for step in steps:
            with self.assertRaises(StepFault, msg=step):
                proof.step(Reader(step).proof_step())
            self.assertEqual((proof.term, list(proof.goals), proof.many, dict(one.solved), dict(one.kinds), one.kept()),
                             before)
        proof.step(("assumption",))
        self.assertEqual(proof.finish(), ("lam", "z", PROP, ("lam", "w", V0, V0)))

    def test_statements_are_of_no_kind_type(self):
        for hole in ("z", "?"):
            function = f"(fun (h : {hole}) => h)"
            self.refuse(f"exact (id {function} w)", f"exact (id (id {function}) w)", f"exact (@id ? {function} w)",
                        f"exact (id {function} ?)", f"apply (id {function})", f"apply (id (id {function}))",
                        f"apply (id {function} w)", f"cases (id {function} w)",
                        f"have k : P (use (cons {function} nil) (fun (h : z) => h))",
                        f"exact (two {function} w)", f"exact (let f : ? -> ? := id {function} in f w)")

    def test_products_of_kinds_that_are_found_later(self):
        function = "(fun (T : Type) (x : T) => x)"
        for kind in ("z -> z", "? -> ?", "z -> ?", "? -> z", "forall (h : ?), z", "forall (h : ?), ?"):
            self.refuse(f"exact ({function} ({kind}) (fun (h : z) => h) w)", f"apply ({function} ({kind}) (fun h => h))")

    def test_what_fits(self):
        for text in ("id (fun (h : ?) => h) n", "two (fun (h : ?) => h) n", "id (fun h => h) n",
                     "(fun (T : Type) (x : T) => x) (? -> ?) (fun (h : nat) => h) n",
                     "use (cons (fun (h : ?) => h) nil) (fun (h : nat) => h)"):
            session = Session()
            session.enter(TEXT)
            session.enter("claim t : forall (Q : nat -> Prop) (n : nat), (forall (m : nat), Q m) -> Q n")
            session.enter("step intro Q n w")
            self.assertEqual(session.enter(f"step have k : Q ({text})")[:3], "2: ")
            self.assertEqual(session.enter("step exact (w ?)"), "1: Q n")
            self.assertEqual(session.enter("step assumption") if "use" not in text else "no goals", "no goals")
            if "use" in text:
                session.enter("step exact (w ?)")
            self.assertEqual(session.enter("qed"), "proved t", text)
        # A kind that is told as "?" may be of any level where nothing asks for another one.
        for text in ("(fun (h : ?) => h) w", "(fun (T : Prop) (x : T) => x) (? -> z) (fun (h : z) => h) w",
                     "(fun (f : ? -> ?) => f w) (fun (h : z) => h)", "let f : ? -> ? := fun (h : z) => h in f w"):
            proof = begun()
            proof.step(("exact", parse_term(text)))
            self.assertEqual(proof.goals, [])
            proof.finish()

    def test_elaboration_alone(self):
        for text in ("id (fun (h : ?) => h) w", "id (id (fun (h : ?) => h)) w",
                     "(fun (T : Type) (x : T) => x) (? -> ?) (fun (h : z) => h)"):
            one = Elaborator(WORLD.signature, WORLD.implicits)
            before = one.kept()
            with self.assertRaises(KindFault, msg=text):
                one.infer(parse_term(text), CONTEXT)
            self.assertEqual((one.kept(), one.steps), (before, 0))
        one = Elaborator(WORLD.signature, WORLD.implicits)
        term, kind = one.infer(parse_term("fun (x : nat) => id (fun (h : ?) => h) x"), CONTEXT)
        self.assertEqual(one.finished(kind), ("pi", "x", ("const", "nat"), ("const", "nat")))
        self.assertFalse(one.finished(term) == term)
        # What is not known yet is looked at when it is: here by the next thing that is asked.
        one = Elaborator(WORLD.signature, WORLD.implicits)
        term, kind = one.infer(parse_term("id (fun (h : ?) => h)"), CONTEXT)
        kind = one.full(kind)
        with self.assertRaises(KindFault):
            one.unify(kind[2], ("var", 1), CONTEXT)
        one.unify(kind[2], ("const", "nat"), CONTEXT)
        self.assertEqual(one.finished(one.full(kind))[2], ("const", "nat"))

    def test_texts(self):
        for text in ("def t (z : Prop) (w : z) : z := id (fun (h : ?) => h) w;",
                     "def t (z : Prop) (w : z) : z := (fun (T : Type) (x : T) => x) (? -> ?) (fun (h : z) => h) w;"):
            world = WORLD.copied()
            with self.assertRaises(KindFault):
                world.add_text(text)
            self.assertNotIn("t", world.signature.kinds)
        self.assertEqual(WORLD.copied().add_text("def t : ? -> ? := fun (h : nat) => h; def u (z : Prop) : ? -> ? := "
                                                 "fun (h : z) => h; def v : nat -> ? := fun (n : ?) => nat;"), 3)


if __name__ == "__main__":
    unittest.main()
