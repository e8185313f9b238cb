import inspect
import unittest

from kernelstack import proof as module
from kernelstack.checker import Checker, is_proof
from kernelstack.errors import StepFault, TermError
from kernelstack.parser import Reader, parse_term
from kernelstack.elaborate import Elaborator
from kernelstack.proof import Proof, abstracted, holes_in, plain
from kernelstack.terms import same
from kernelstack.world import closed_context
from naive_kernel import Naive
from samples import NAT, NEXT, PROP, TYPE, V0, V1, V2, ZERO, applied
from stock import lam, num, pi
from texts import WORLD, world

EQ, PLUS, AND = ("const", "eq"), ("const", "plus"), ("const", "and")
NAIVE = Naive()
for ROW in WORLD.signature.shown():
    NAIVE.add(ROW)


def kind_of(text, context=()):
    """Return the kind that a text tells."""
    one = Elaborator(WORLD.signature, WORLD.implicits)
    return one.finished(one.kind_of(parse_term(text), context)[0])


def proof_of(text):
    """Return a proof that has just begun."""
    return Proof(WORLD.signature, WORLD.implicits, (), kind_of(text))


def seen(proof):
    """Return all of a proof that a refused step must leave as it is."""
    one = proof.elaborator
    return (list(proof.goals), proof.term, proof.many, dict(one.solved), dict(one.kinds), dict(one.contexts))


class Proving(unittest.TestCase):
    def carry_out(self, proof, *steps):
        """Carry out steps, each with the number of goals after it behind "/"."""
        for step in steps:
            text, _, many = step.partition("/")
            self.assertIsNone(proof.step(Reader(text).proof_step()))
            if many:
                self.assertEqual(len(proof.goals), int(many), step)
        return proof

    def refuse(self, proof, *steps):
        """Raise a failure for a step that is not refused, or changes something."""
        before = seen(proof)
        for text in steps:
            with self.assertRaises(StepFault, msg=text) as caught:
                proof.step(Reader(text).proof_step())
            self.assertIs(type(caught.exception), StepFault)
            self.assertEqual(seen(proof), before, text)
        return proof

    def proves(self, statement, *steps):
        """Carry out steps, and test the proof by the kernel and a naive one."""
        proof = self.carry_out(proof_of(statement), *steps)
        self.assertEqual(proof.goals, [])
        self.refuse(proof, "assumption", "intro x", "exact O")
        term = proof.finish()
        told = kind_of(statement)
        self.assertTrue(is_proof(WORLD.signature, term, told), statement)
        NAIVE.steps = 0
        self.assertTrue(same(NAIVE.kind_of(term, ()), NAIVE.normal(told)), statement)
        return term

    def goal(self, proof, told, *names):
        """Compare the first goal with a text's kind, and the names of its context, the first one first."""
        _, context, kind = proof.first()
        self.assertEqual([row[0] for row in reversed(context)], list(names))
        self.assertTrue(same(plain(kind), plain(kind_of(told, context))), (kind, told))


class TestBeginning(Proving):
    def test_interface(self):
        self.assertEqual(str(inspect.signature(Proof)), "(signature, implicits, context, kind)")
        for name, told in {"first": "(self)", "step": "(self, step)", "finish": "(self)"}.items():
            self.assertEqual(str(inspect.signature(vars(Proof)[name])), told)
        for name, told in {"holes_in": "(term)", "abstracted": "(kind, term, depth)", "plain": "(kind)"}.items():
            self.assertEqual(str(inspect.signature(getattr(module, name))), told)

    def test_a_new_proof(self):
        context = closed_context([("P", PROP), ("p", V0)])
        proof = Proof(WORLD.signature, WORLD.implicits, context, V1)
        self.assertEqual(len(proof.goals), 1)
        self.assertEqual(proof.first(), (proof.goals[0], context, V1))
        self.assertEqual(proof.term, ("meta", proof.goals[0], (V0, V1)))
        self.assertEqual(proof.many, 0)
        self.assertIs(proof.signature, WORLD.signature)
        self.assertIsInstance(proof.elaborator, Elaborator)
        with self.assertRaises(StepFault):
            proof.finish()
        self.carry_out(proof, "assumption/0")
        self.assertEqual(proof.finish(), V0)
        with self.assertRaises(StepFault):
            proof.first()

    def test_functions(self):
        self.assertEqual(
            holes_in(applied(("meta", 3, ()), ("meta", 1, (("meta", 2, ()),)), ("meta", 3, ()))), [3, 1, 2]
        )
        self.assertEqual(holes_in(ZERO), [])
        self.assertEqual(abstracted(applied(EQ, NAT, V0, V1), V0, 0), applied(EQ, NAT, V0, V2))
        self.assertEqual(
            abstracted(lam(("x", NAT), applied(PLUS, V0, V1)), V0, 0), lam(("x", NAT), applied(PLUS, V0, V1))
        )
        self.assertEqual(abstracted(applied(NEXT, ZERO), ZERO, 0), applied(NEXT, V0))
        self.assertEqual(abstracted(applied(V0, V1), V0, 1), applied(V0, V1))
        self.assertEqual(
            plain(applied(lam(("x", NAT), ("y", NAT), applied(EQ, V1, V0)), ZERO, num(1))), applied(EQ, ZERO, num(1))
        )
        self.assertEqual(plain(pi(("x", NAT), applied(lam(("y", NAT), V0), V0))), pi(("x", NAT), V0))
        self.assertEqual(plain(("const", "plus")), ("const", "plus"))


class TestSteps(Proving):
    def test_intro(self):
        proof = self.carry_out(proof_of("forall (P Q : Prop), P -> Q -> P"), "intro A/1")
        self.goal(proof, "forall (Q : Prop), A -> Q -> A", "A")
        self.carry_out(proof, "intro B a b/1")
        self.goal(proof, "A", "A", "B", "a", "b")
        self.refuse(proof, "intro c")
        self.carry_out(proof, "exact a/0")
        self.refuse(proof_of("forall (P : Prop), P -> P"), "intro P p q")
        self.proves("forall (P : Prop), not P -> not P", "intro P n p", "exact n p")

    def test_exact(self):
        self.proves("eq nat (plus 1 1) 2", "exact refl nat 2/0")
        self.refuse(
            proof_of("eq nat (plus 1 1) 3"),
            "exact refl nat 2",
            "exact nowhere",
            "exact ? ?",
            "exact O",
            "exact nat",
            "exact refl nat 61",
            "exact fun x => x",
        )
        proof = self.carry_out(
            proof_of("forall (P Q : Prop), P -> Q -> and P Q"), "intro P Q p q", "exact both ? ? ? ?/2"
        )
        self.goal(proof, "P", "P", "Q", "p", "q")
        self.carry_out(proof, "exact p/1")
        self.goal(proof, "Q", "P", "Q", "p", "q")
        self.carry_out(proof, "exact q/0")
        proof = self.carry_out(
            proof_of("forall (P Q : Prop), and P Q -> and P Q"),
            "intro P Q h",
            "exact both P Q ? (rec[and 0] P Q (fun (x : and P Q) => Q) (fun (p : P) (q : Q) => q) h)/1",
            "cases h/1",
            "exact a/0",
        )
        self.carry_out(proof_of("eq nat 1 1"), "exact ?/1", "exact ?/1", "exact refl ? ?/0")

    def test_holes_come_before_other_goals(self):
        proof = self.carry_out(
            proof_of("forall (P Q R : Prop), P -> Q -> R -> and (and P Q) R"),
            "intro P Q R p q r",
            "apply both/2",
            "exact both ? ? ? ?/3",
        )
        for told in ("P", "Q", "R"):
            self.goal(proof, told, "P", "Q", "R", "p", "q", "r")
            self.carry_out(proof, f"exact {told.lower()}")
        self.assertEqual(proof.goals, [])

    def test_apply(self):
        self.proves("forall (P Q : Prop), P -> (P -> Q) -> Q", "intro P Q p f", "apply f/1", "apply p/0")
        self.proves(
            "forall (P Q R : Prop), P -> Q -> (P -> Q -> R) -> R",
            "intro P Q R p q f",
            "apply f/2",
            "apply p/1",
            "apply q/0",
        )
        proof = self.carry_out(
            proof_of("forall (f : nat -> nat) (a b : nat), eq nat a b -> eq nat (f a) (f b)"),
            "intro f a b h",
            "apply cong nat nat f/1",
        )
        self.goal(proof, "eq nat a b", "f", "a", "b", "h")
        # As many arguments as are needed: here none, although it could take one.
        proof = self.carry_out(proof_of("forall (P Q : Prop), (P -> Q) -> P -> Q"), "intro P Q f", "apply f/0")
        proof.finish()
        self.refuse(
            self.carry_out(proof_of("forall (P Q : Prop), (P -> Q) -> P"), "intro P Q f"),
            "apply f",
            "apply O",
            "apply nowhere",
            "apply refl",
            "apply Q",
        )
        self.proves("forall (P : Prop), (forall (n : nat), P) -> P", "intro P f", "apply f/1", "exact O/0")
        self.proves("forall (P Q : Prop), not P -> P -> Q", "intro P Q n p", "cases n p/0")
        self.proves("forall (P : Prop), not P -> P -> false", "intro P n p", "apply n/1", "assumption/0")

    def test_goals_that_are_found_on_the_way(self):
        proof = self.carry_out(
            proof_of(
                "(forall (a b c : nat), eq nat a b -> eq nat b c -> eq nat a c) -> eq nat 1 2 ->"
                " eq nat 2 3 -> eq nat 1 3"
            ),
            "intro t h g",
            "apply t/3",
        )
        self.assertEqual(proof.first()[2], NAT)
        proof = self.carry_out(proof, "exact 2/2", "exact h/1", "exact g/0")
        other = self.carry_out(
            proof_of(
                "(forall (a b c : nat), eq nat a b -> eq nat b c -> eq nat a c) -> eq nat 1 2 ->"
                " eq nat 2 3 -> eq nat 1 3"
            ),
            "intro t h g",
            "exact t ? ? ? h ?/1",
            "exact g/0",
        )
        self.assertEqual(other.finish(), proof.finish())

    def test_cases(self):
        proof = self.carry_out(proof_of("forall (n : nat), eq nat (plus n 0) n"), "intro n", "cases n/2")
        self.goal(proof, "eq nat (plus 0 0) 0", "n")
        self.carry_out(proof, "exact refl ? ?/1")
        self.goal(proof, "eq nat (plus (S n) 0) (S n)", "n", "n", "_")
        self.proves(
            "forall (b : bool), eq bool (rec[bool 1] (fun x => bool) true false_b b) b",
            "intro b",
            "cases b/2",
            "exact refl ? ?/1",
            "exact refl ? ?/0",
        )
        self.proves(
            "forall (P Q : Prop), or P Q -> or Q P",
            "intro P Q h",
            "cases h/2",
            "exact inr Q P a/1",
            "exact inl Q P b/0",
        )
        self.proves("forall (P : Prop), false -> P", "intro P f", "cases f/0")
        self.proves("forall (P Q : Prop), and P Q -> P", "intro P Q h", "cases h/1", "exact a/0")
        self.proves(
            "forall (s : seq nat), eq (seq nat) s s", "intro s", "cases s/2", "exact refl ? ?/1", "exact refl ? ?/0"
        )

    def test_only_the_goal_is_changed(self):
        proof = self.carry_out(proof_of("forall (n : nat), eq nat n 1 -> eq nat n 1"), "intro n h", "cases n/2")
        self.goal(proof, "eq nat 0 1", "n", "h")
        self.refuse(proof, "exact h")
        _, context, _ = proof.first()
        self.assertEqual(context[0][1], applied(EQ, NAT, V0, num(1)))
        self.goal(
            self.carry_out(proof_of("forall (n : nat), eq nat n 1 -> eq nat n 1"), "intro n", "cases n/2"),
            "eq nat 0 1 -> eq nat 0 1",
            "n",
        )

    def test_terms_that_are_no_variables(self):
        proof = self.carry_out(
            proof_of("forall (n : nat), eq nat (plus n n) (plus n n)"), "intro n", "cases plus n n/2"
        )
        self.goal(proof, "eq nat 0 0", "n")
        self.carry_out(proof, "exact refl ? ?/1")
        self.goal(proof, "eq nat (S n) (S n)", "n", "n", "_")

    def test_cases_that_do_not_fit(self):
        proof = self.carry_out(proof_of("forall (P : Prop) (n : nat) (f : nat -> nat), P"), "intro P n f")
        self.refuse(
            proof,
            "cases P",
            "cases f",
            "cases nat",
            "cases nowhere",
            "cases S",
            "cases ?",
            "cases none",
            "induction P",
            "cases Prop",
            "cases more O",
        )
        # A statement gives statements alone.
        proof = Proof(
            WORLD.signature,
            WORLD.implicits,
            closed_context([("P", PROP), ("h", applied(("const", "or"), V0, V0))]),
            NAT,
        )
        self.refuse(proof, "cases h", "induction h")
        self.carry_out(proof, "cases O/2", "exact O/1")
        self.goal(proof, "nat", "P", "h", "n", "_")

    def test_induction(self):
        proof = self.carry_out(proof_of("forall (n : nat), eq nat (plus n 0) n"), "intro n", "induction n/2")
        self.goal(proof, "eq nat (plus 0 0) 0", "n")
        self.carry_out(proof, "exact refl ? ?/1")
        _, context, kind = proof.first()
        self.assertEqual([row[0] for row in context], ["h", "n", "n"])
        self.assertTrue(same(context[0][1], applied(EQ, NAT, applied(PLUS, V0, ZERO), V0)))
        self.assertTrue(same(kind, applied(EQ, NAT, applied(PLUS, applied(NEXT, V1), ZERO), applied(NEXT, V1))))
        self.carry_out(proof, "apply cong nat nat S/1", "exact h/0")
        self.proves(
            "forall (n : nat), eq nat (plus n 0) n",
            "intro n",
            "induction n",
            "exact refl ? ?",
            "apply cong nat nat S (plus n 0) n",
            "exact h",
        )
        self.proves(
            "forall (n m : nat), eq nat (plus n (S m)) (S (plus n m))",
            "intro n m",
            "induction n/2",
            "exact refl ? ?/1",
            "show eq nat (S (plus n (S m))) (S (S (plus n m)))/1",
            "apply cong nat nat S/1",
            "assumption/0",
        )
        # Without the hypothesis' name it does not go, but the variable is there.
        proof = self.carry_out(
            proof_of("forall (n : nat), eq nat (plus n 0) n"),
            "intro n",
            "cases n",
            "exact refl ? ?",
            "apply cong nat nat S",
        )
        self.assertEqual([row[0] for row in proof.first()[1]], ["_", "n", "n"])
        self.refuse(proof, "exact h", "exact refl ? ?")
        self.carry_out(proof, "exact _/0")

    def test_show(self):
        proof = self.carry_out(proof_of("eq nat (plus 1 1) 2"), "show eq nat 2 2/1")
        self.goal(proof, "eq nat 2 2")
        self.refuse(proof, "show eq nat 2 3", "show nat", "show O", "show nowhere", "show eq ? true true")
        self.carry_out(proof, "show eq ? (plus 2 0) ?/1")
        self.goal(proof, "eq nat (plus 2 0) 2")
        self.proves("forall (P : Prop), not P -> P -> false", "intro P n", "show not P/1", "exact n/0")

    def test_have(self):
        proof = self.carry_out(
            proof_of("forall (P Q R : Prop), P -> (P -> Q) -> (Q -> R) -> R"), "intro P Q R p f g", "have q : Q/2"
        )
        self.goal(proof, "Q", "P", "Q", "R", "p", "f", "g")
        self.carry_out(proof, "exact f p/1")
        self.goal(proof, "R", "P", "Q", "R", "p", "f", "g", "q")
        self.carry_out(proof, "exact g q/0")
        self.proves(
            "forall (P Q R : Prop), P -> (P -> Q) -> (Q -> R) -> R",
            "intro P Q R p f g",
            "have q : Q/2",
            "exact f p/1",
            "exact g q/0",
        )
        self.refuse(proof_of("eq nat 0 0"), "have h : O", "have h : nowhere", "have h : eq nat O true", "have h : ?")

    def test_assumption(self):
        proof = self.carry_out(proof_of("forall (P Q : Prop), P -> P -> Q -> P"), "intro P Q a b c", "assumption/0")
        self.assertEqual(proof.finish(), lam(("P", PROP), ("Q", PROP), ("a", V1), ("b", V2), ("c", V2), V1))
        self.refuse(self.carry_out(proof_of("forall (P Q : Prop), P -> Q"), "intro P Q p"), "assumption")
        self.refuse(proof_of("false"), "assumption")
        self.proves("eq nat (plus 1 1) 2 -> eq nat 2 (plus 2 0)", "intro h", "assumption/0")

    def test_search(self):
        self.proves("forall (P : Prop), P -> P", "search 1/0")
        self.proves("forall (P Q R : Prop), (P -> Q) -> (Q -> R) -> P -> R", "search 3/0")
        self.proves("forall (P Q R : Prop), (P -> Q -> R) -> (P -> Q) -> P -> R", "intro P Q R", "search 3/0")
        self.proves("forall (n : nat) (f : nat -> nat), eq nat n (f n) -> eq nat n (f n)", "search 2")
        self.proves(
            "forall (R : nat -> nat -> Prop) (t : forall (a b c : nat), R a b -> R b c -> R a c) (a b c d : nat),"
            " R a b -> R b c -> R a c",
            "intro R t a b c d h g",
            "search 2/0",
        )
        self.refuse(proof_of("forall (P Q : Prop), P -> Q"), "search 6", "search 0", "search 100")
        self.refuse(proof_of("forall (P : Prop), (P -> P) -> P"), "search 6")
        # A row of implications, the last of which needs all others within it.
        for many, told in ((1, True), (4, True), (9, False), (12, False)):
            text = "forall (P0 " + " ".join(f"P{number}" for number in range(1, many + 1)) + " : Prop), P0 -> "
            text += "".join(f"(P{number} -> P{number + 1}) -> " for number in range(many)) + f"P{many}"
            for deep in (6, 7, 50):
                if told:
                    self.carry_out(proof_of(text), f"search {deep}/0")
                else:
                    self.refuse(proof_of(text), f"search {deep}")
            self.refuse(proof_of(text), "search 1")
        self.carry_out(
            proof_of("forall (P Q : Prop), P -> Q -> and P Q"),
            "intro P Q p q",
            "apply both/2",
            "search 1/1",
            "search 1/0",
        )

    def test_reckon_and_unfold(self):
        for word in ("reckon", "unfold"):
            proof = self.carry_out(proof_of("eq nat (plus 1 1) (times 2 2)"), f"{word}/1")
            self.assertEqual(proof.first()[2], applied(EQ, NAT, num(2), num(4)))
            proof = self.carry_out(proof_of("forall (n : nat), not (eq nat (plus 1 n) O)"), "intro n", f"{word}/1")
            self.assertTrue(
                same(proof.first()[2], pi(("_", applied(EQ, NAT, applied(NEXT, V0), ZERO)), ("const", "false")))
            )
            self.proves("forall (n : nat), eq nat (plus 1 n) (S n)", word, "intro n", "exact refl ? ?")

    def test_a_refused_step_in_the_middle(self):
        proof = self.carry_out(proof_of("forall (P Q : Prop), P -> Q -> and P Q"), "intro P Q p q", "apply both/2")
        self.refuse(
            proof,
            "exact q",
            "apply both",
            "cases p",
            "intro x",
            "have h : nowhere",
            "show Q",
            "search 0",
            "exact both",
            "exact P",
            "induction P",
        )
        self.carry_out(proof, "assumption/1", "assumption/0")
        self.assertEqual(proof.many, 4)

    def test_a_hundred_steps(self):
        proof = proof_of("eq nat 0 0")
        for number in range(99):
            self.assertEqual(proof.many, number)
            proof.step(("reckon",))
        proof.step(Reader("exact ?").proof_step())
        self.assertEqual(proof.many, 100)
        self.refuse(proof, "exact refl nat 0", "reckon")
        other = proof_of("eq nat 0 0")
        for _ in range(99):
            other.step(("reckon",))
        self.carry_out(other, "exact refl nat 0/0")
        other.finish()
        steps = ", ".join(["reckon"] * 99)
        world().add_text(f"theorem new : eq nat 0 0 by {steps}, exact refl nat 0;")
        with self.assertRaises(StepFault):
            world().add_text(f"theorem new : eq nat 0 0 by reckon, {steps}, exact refl nat 0;")

    def test_kinds_that_grow_without_end(self):
        one = world()
        one.add_text("axiom K : Type -> Prop; axiom two : Type -> Type -> Type;")
        kind = "((fun (X : Type) => two X X) " * 50 + "nat" + ")" * 50
        kind, _ = one.term_of(f"forall (n : nat), K {kind} -> K {kind}")
        proof = Proof(one.signature, one.implicits, (), kind)
        proof.step(("intro", ("n",)))
        for step in ("cases n", "decide", "reckon"):
            with self.assertRaises(StepFault):
                proof.step(Reader(step).proof_step())
        proof.step(("intro", ("k",)))
        proof.step(("assumption",))
        self.assertTrue(is_proof(one.signature, proof.finish(), kind))

    def test_what_is_too_deep(self):
        proof = proof_of("nat")
        for _ in range(6):
            self.carry_out(proof, "exact " + "S (" * 55 + "?" + ")" * 55 + "/1")
        self.carry_out(proof, "exact S (S ?)/1")
        for _ in range(90):
            self.carry_out(proof, "exact " + "S (" * 55 + "?" + ")" * 55 + "/1")
        self.assertEqual(len(proof.goals), 1)
        self.carry_out(proof, "exact O/0")
        # It is for the kernel to tell that this is no term.
        with self.assertRaises(TermError):
            Checker(WORLD.signature.copied()).add(("def", "new", NAT, proof.finish()))

    def test_local_definitions_in_goals(self):
        context = (("x", NAT, num(2)),)
        proof = Proof(WORLD.signature, WORLD.implicits, context, applied(EQ, NAT, V0, num(2)))
        self.refuse(proof, "exact refl nat 3")
        self.carry_out(proof, "exact refl nat 2/0")

    def test_decide(self):
        self.proves("forall (P Q : Prop), and P Q -> and Q P", "decide/0")
        self.proves("forall (P Q R : Prop), (or P Q -> R) -> and (P -> R) (Q -> R)", "decide/0")
        self.proves("forall (P : Prop), ((or P (P -> false)) -> false) -> false", "decide/0")
        self.proves("forall (P : nat -> Prop) (n : nat), P n -> or (P O) (P n)", "decide/0")
        self.refuse(proof_of("forall (P : Prop), or P (P -> false)"), "decide")
        self.refuse(proof_of("forall (P Q : Prop), ((P -> Q) -> P) -> P"), "decide")
        self.refuse(proof_of("forall (P : nat -> Prop), P 1 -> P 2"), "decide")
        self.refuse(proof_of("forall (P : nat -> Prop), (forall" " (n : nat), P n) -> P 0"), "decide")

    def test_what_holes_stand_for_has_their_kind(self):
        # The implicit argument of id is a Type, and a statement is none.
        proof = self.carry_out(proof_of("forall (P : Prop), P -> P"), "intro P p")
        self.refuse(proof, "exact id ?", "apply id", "exact id p")
        self.carry_out(proof, "exact (fun (q : P) => q) p/0")
        self.refuse(proof_of("nat"), "decide")
        self.refuse(self.carry_out(proof_of("forall (n : nat), nat"), "intro n"), "decide")

    def test_decide_by_the_context(self):
        proof = self.carry_out(
            proof_of("forall (P Q R : Prop) (n : nat), (P -> Q) -> or P (and R Q) -> and Q Q"),
            "intro P Q R n f h",
            "decide/0",
        )
        term = proof.finish()
        self.assertTrue(
            is_proof(
                WORLD.signature, term, kind_of("forall (P Q R : Prop) (n : nat), (P -> Q) -> or P (and R Q) -> and Q Q")
            )
        )
        proof = self.carry_out(proof_of("forall (P Q R : Prop), (P -> Q) -> or P R -> Q"), "intro P Q R f h")
        self.refuse(proof, "decide")
        self.proves("forall (P Q : Prop), and P Q -> eq nat 0 0 -> and (eq nat 0 0) Q", "intro P Q h e", "decide")
        self.proves(
            "forall (P Q : Prop), P -> Q -> and P Q", "intro P", "intro Q p", "have h : Q -> Q", "decide/1", "decide/0"
        )


if __name__ == "__main__":
    unittest.main()
