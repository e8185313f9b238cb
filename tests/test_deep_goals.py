"""Goals and statements with a thousand parts within each other: steps fit or are refused, and nothing is by calls."""

import unittest

from kernelstack.elaborate import Elaborator
from kernelstack.errors import KernelError, KindFault, StepFault
from kernelstack.logic import Search, alike, closed, decide, formula, function, made, rec, statement
from kernelstack.parser import Reader
from kernelstack.proof import Proof, plain
from kernelstack.terms import apply, binders, lifted, same, size
from kernelstack.world import world_of
from samples import NAT, PROP, V0, V1, ZERO, applied
from shallow import within
from stock import lam, pi

TEXT = """data and {a b : Prop} : Prop | both (x : a) (y : b) end
data or {a b : Prop} : Prop | inl (x : a) | inr (x : b) end data false : Prop end
data nat : Type | O | S (n : nat) end def not (a : Prop) : Prop := a -> false;"""
WORLD = world_of(TEXT)
# What is told by these stands fifty times within itself, and twenty times within that.
BODIES = {
    "and": "(and p " * 50 + "h" + ")" * 50,
    "or": "(or p " * 50 + "h" + ")" * 50,
    "arrows": "p -> " * 50 + "h",
    "left sides": "(" * 50 + "h" + " -> p)" * 50,
    "products": "forall (" + " ".join([f"x{number}" for number in range(50)]) + " : p), h",
    "nots": "(not " * 50 + "h" + ")" * 50,
    "numbers": "forall (" + " ".join([f"x{number}" for number in range(50)]) + " : nat), h",
}
FEW = 330


def deep(label, last="p", many=20):
    """Return the text of a statement that is large when its functions are carried out."""
    return f"(fun (f : Prop -> Prop) => {'(f ' * many}{last}{')' * many}) (fun (h : Prop) => {BODIES[label]})"


def begun(text, *steps):
    """Return a proof of a text's statement after some steps."""
    proof = Proof(WORLD.signature, WORLD.implicits, (), WORLD.term_of(text)[0])
    for step in steps:
        proof.step(Reader(step).proof_step())
    return proof


def seen(proof):
    """Return what a refused step must leave as it is."""
    one = proof.elaborator
    return (proof.term, list(proof.goals), proof.many, dict(one.solved), dict(one.kinds), dict(one.contexts), one.steps)


class TestDecide(unittest.TestCase):
    def follows(self, proof):
        """Raise a failure if the step decide does not find the first goal."""
        many = len(proof.goals)
        within(FEW, lambda: proof.step(("decide",)))
        self.assertEqual(len(proof.goals), many - 1)

    def refuse(self, proof):
        """Raise a failure if the step decide is not refused."""
        before = seen(proof)
        with self.assertRaises(StepFault):
            within(FEW, lambda: proof.step(("decide",)))
        self.assertEqual(seen(proof), before)

    def test_deep_goals(self):
        for label in ("and", "or", "arrows", "products"):
            self.follows(begun(f"forall (p : Prop) (q : p), {deep(label)}", "intro p q"))
            self.follows(begun(f"forall (p : Prop) (q : p), {deep(label)}"))
            self.follows(begun(f"forall (p r : Prop) (x : r), p -> {deep(label, 'r')}", "intro p r x y"))
        for label in ("and", "or"):
            self.refuse(begun(f"forall (p : Prop), {deep(label)}", "intro p"))
            self.refuse(begun(f"forall (p r : Prop), r -> {deep(label)}", "intro p r"))
        self.refuse(begun(f"forall (p r : Prop) (x : p), {deep('arrows', 'r')}", "intro p r x"))
        # Implications of implications: of an even number of left sides.
        self.follows(begun(f"forall (p : Prop) (q : p), {deep('left sides')}", "intro p q"))
        self.refuse(begun(f"forall (p r : Prop), {deep('left sides', 'r')}", "intro p r"))

    def test_deep_hypotheses(self):
        for label in ("and", "or", "arrows", "products", "left sides"):
            self.follows(begun(f"forall (p : Prop) (q : p) (x : {deep(label)}), p", "intro p q x"))
            self.follows(begun(f"forall (p : Prop) (x : {deep(label)}), {deep(label)}", "intro p x"))
        self.follows(begun(f"forall (p r : Prop) (x : {deep('and', 'r', 8)}), r", "intro p r x"))
        self.follows(begun(f"forall (p r : Prop) (q : p) (x : {deep('arrows', 'r')}), r", "intro p r q x"))
        self.follows(begun(f"forall (p : Prop) (x : {deep('or')}), p", "intro p x"))
        for label in ("or", "arrows", "left sides"):
            self.refuse(begun(f"forall (p r : Prop) (x : {deep(label, 'r')}), r", "intro p r x"))

    def test_small_ones_are_proofs(self):
        for many in (1, 2):
            for label in ("and", "or", "arrows"):
                world = WORLD.copied()
                body = BODIES[label]
                BODIES["short"] = body.replace("(and p " * 50, "(and p " * 4).replace("(or p " * 50, "(or p " * 4)
                BODIES["short"] = BODIES["short"].replace("p -> " * 50, "p -> " * 4).replace(")" * 50, ")" * 4)
                text = f"theorem t (p : Prop) (q : p) : {deep('short', 'p', many)} by decide;"
                self.assertEqual(world.add_text(text), 1)
                text = f"theorem u (p r : Prop) (q : p) (x : {deep('short', 'r', many)}) : or r p by decide;"
                self.assertEqual(world.add_text(text), 1)

    def test_what_is_too_large_is_refused_by_the_kernel(self):
        world = WORLD.copied()
        for label in ("and", "or", "arrows"):
            with self.assertRaises(KernelError) as caught:
                within(FEW, lambda: world.add_text(f"theorem t (p : Prop) (q : p) : {deep(label)} by decide;"))
            self.assertNotIsInstance(caught.exception, StepFault)
            self.assertEqual(world.signature.order, WORLD.signature.order)

    def test_formulas_of_any_depth(self):
        left, right = V0, V0
        for _ in range(3000):
            left = pi(("_", left), V1)
            right = applied(("const", "and"), V0, right)
        for one in (left, right):
            parts = within(FEW, lambda: formula(one))
            self.assertTrue(within(FEW, lambda: same(statement(parts), one)))
            self.assertTrue(within(FEW, lambda: alike(parts, formula(one))))
            self.assertFalse(within(FEW, lambda: alike(parts, formula(applied(("const", "or"), one, one)))))
            self.assertEqual(within(FEW, lambda: size(closed(one, "and", 0))), size(one))
            self.assertEqual(within(FEW, lambda: size(function("#1", PROP, one))), size(one) + 2)
        halves = ("and", formula(left), formula(right))
        self.assertEqual(within(FEW, lambda: size(made("both", halves, [V0]))), size(left) + size(right) + 5)
        self.assertEqual(within(FEW, lambda: size(rec("and", [], halves, [], PROP, V0))), size(left) + size(right) + 9)
        self.assertIsNone(within(FEW, lambda: Search().prove([], formula(left))))
        self.assertIsNotNone(within(FEW, lambda: Search().prove([(formula(right), V0)], formula(V0))))
        self.assertIsNotNone(within(FEW, lambda: decide(right, [(V0, ("var", 3))])))

    def test_many_products_are_taken_in_soon(self):
        rows = [(f"x{number}", PROP) for number in range(1500)]
        found = within(FEW, lambda: decide(binders("pi", rows, pi(("_", ("var", 700)), ("var", 701)))))
        self.assertTrue(same(found, binders("lam", rows, lam(("y", ("var", 700)), V0))))

    def test_a_refused_search_counts_nothing(self):
        search = Search()
        search.nodes = 199999
        atoms = [("atom", ("const", name)) for name in "abcd"]
        goal = ("and", ("and", atoms[0], atoms[1]), ("and", atoms[2], atoms[3]))
        hyps = [(one, ("const", f"h{place}")) for place, one in enumerate(atoms)]
        with self.assertRaises(StepFault):
            search.prove(hyps, goal)
        self.assertEqual(search.nodes, 199999)
        self.assertIsNotNone(search.prove(hyps, atoms[0]))


class TestOtherSteps(unittest.TestCase):
    def test_steps_that_fit(self):
        for label in ("arrows", "left sides", "products", "numbers"):
            text = f"forall (p : Prop) (q : p) (a : and (and p p) p), {deep(label)}"
            for step in ("cases x", "induction x", "cases (both q q)", "exact ?", "have k : p", "exact (fun (z : ?) => ?)"):
                proof = begun(text, "intro p q a", "cases a")
                within(FEW, lambda: proof.step(Reader(step).proof_step()))
                self.assertEqual(len(proof.goals), 2 if step[:4] == "have" else 1, (label, step))

    def test_steps_that_do_not_fit(self):
        for label in ("arrows", "left sides", "and", "or", "nots"):
            text = f"forall (p : Prop) (q : p) (a : and (and p p) p), {deep(label)}"
            for step in ("apply a", "cases p", "show p", "exact q", "assumption", "exact (both q q q)", "apply false"):
                proof = begun(text, "intro p q a")
                before = seen(proof)
                with self.assertRaises(StepFault):
                    within(FEW, lambda: proof.step(Reader(step).proof_step()))
                self.assertEqual(seen(proof), before)
        for step in ("apply both", "apply inr", "exact (fun z => ?)"):
            proof = begun(f"forall (p : Prop) (q : p) (a : and p p), {deep('left sides')}", "intro p q a", "cases a")
            before = seen(proof)
            with self.assertRaises(StepFault):
                within(FEW, lambda: proof.step(Reader(step).proof_step()))
            self.assertEqual(seen(proof), before)

    def test_kinds_found_of_deep_terms(self):
        one = Elaborator(WORLD.signature, WORLD.implicits)
        term, level, functions, defined = PROP, NAT, V0, V0
        for _ in range(1500):
            term = pi(("x", term), NAT)
            level = pi(("x", NAT), level)
            functions = lam(("x", NAT), functions)
            defined = ("let", "x", NAT, ZERO, defined)
        self.assertEqual(within(FEW, lambda: one.kind_found(term, ())), ("sort", 1))
        self.assertEqual(within(FEW, lambda: one.kind_found(level, ())), ("sort", 1))
        self.assertTrue(within(FEW, lambda: same(one.kind_found(functions, (("y", NAT, None),)), level)))
        self.assertEqual(within(FEW, lambda: one.kind_found(defined, ())), NAT)
        with self.assertRaises(KindFault):
            within(FEW, lambda: one.kind_found(pi(("x", lam(("y", NAT), term)), NAT), ()))

    def test_searches_for_many_holes(self):
        names = " ".join([f"x{number}" for number in range(40)])
        text = f"forall (p q : Prop) (y : p) (f : forall ({names} : p), q), q"
        proof = begun(text, "intro p q y f")
        within(FEW, lambda: proof.step(("search", 2)))
        self.assertEqual(proof.goals, [])
        proof.finish()


class TestCarryingOut(unittest.TestCase):
    def test_what_is_done_is_not_gone_through_again(self):
        BODIES["twenty"] = BODIES["and"].replace("(and p " * 50, "(and p " * 20).replace(")" * 50, ")" * 20)
        text = deep("twenty", "p", 55)
        for step in ("cases a", "induction a"):
            proof = begun(f"forall (p : Prop) (q : p) (a : and p p), {text}", "intro p q a")
            within(FEW, lambda: proof.step(Reader(step).proof_step()))
            self.assertEqual(len(proof.goals), 1)
        for shown in (f"forall (p : Prop) (q : p), {text}", f"forall (p : Prop) (q : p) (x : {text}), p"):
            proof = begun(shown, "intro p q x" if "(x :" in shown else "intro p q")
            within(FEW, lambda: proof.step(("decide",)))
            self.assertEqual(proof.goals, [])

    def test_plain_kinds(self):
        twice = lam(("h", PROP), applied(("const", "and"), V0, V0))
        both = applied(("const", "and"), V0, V0)
        self.assertEqual(plain(applied(twice, V0)), both)
        self.assertEqual(plain(pi(("x", PROP), applied(twice, V0))), pi(("x", PROP), both))
        self.assertEqual(plain(applied(lam(("f", pi(("_", PROP), PROP)), applied(V0, V1)), twice)), both)
        # Local definitions and definitions stay, and so do holes, whose terms are looked into.
        kept = ("let", "x", PROP, applied(lam(("y", PROP), V0), V0), applied(("const", "not"), V0))
        self.assertEqual(plain(kept), ("let", "x", PROP, V0, applied(("const", "not"), V0)))
        hole = ("meta", 3, (applied(lam(("y", PROP), V0), V1), V0))
        self.assertEqual(plain(applied(lam(("z", PROP), hole), ("const", "p"))), ("meta", 3, (V0, ("const", "p"))))
        self.assertEqual(plain(applied(kept, applied(lam(("y", PROP), V0), V0))), applied(plain(kept), V0))

    def test_functions_that_are_used_often(self):
        # Each function puts its argument in twice; the arguments are not carried out again for that.
        term = V0
        for _ in range(12):
            term = applied(lam(("x", PROP), applied(("const", "and"), V0, V0)), term)
        self.assertEqual(size(within(FEW, lambda: plain(term))), 4 * 2 ** 12 - 3)
        chain = lam(("x", PROP), V0)
        for _ in range(2000):
            chain = applied(lam(("f", pi(("_", PROP), PROP)), V0), chain)
        often = ("const", "p")
        for _ in range(1000):
            often = applied(("const", "and"), applied(V0, ("const", "p")), often)
        found = within(FEW, lambda: plain(applied(lam(("f", pi(("_", PROP), PROP)), often), chain)))
        self.assertEqual(size(found), 4001)

    def test_what_is_too_large_is_refused(self):
        term = V0
        for _ in range(60):
            term = applied(lam(("x", PROP), applied(("const", "and"), V0, V0)), term)
        with self.assertRaises(KernelError):
            plain(term)
        endless = lam(("x", PROP), applied(V0, V0))
        with self.assertRaises(KernelError):
            plain(applied(endless, endless))


class TestElaboration(unittest.TestCase):
    TEXT = """data nat : Type | O | S (n : nat) end
    def add (a b : nat) : nat := rec[nat 1] (fun x => nat) b (fun n h => S h) a;
    axiom A : Type; axiom a : A; axiom c : A -> A -> A; axiom h : nat -> A; axiom Q : A -> Prop;
    def d (x y : A) : A := c x y; def big : nat := add (add 60 60) 50;
    def one (n : nat) : A := rec[nat 1] (fun x => A) a (fun n h => c h a) n;
    def two (n : nat) : A := rec[nat 1] (fun x => A) a (fun n h => rec[nat 1] (fun x => A) (c h a) (fun m k => c h a) n) n;
    axiom nest : forall {x : A}, Q x -> Q (d a x); axiom q0 : Q a;
    """

    def nested(self, many, term):
        """Return a term under so many "d a"."""
        for _ in range(many):
            term = applied(("const", "d"), ("const", "a"), term)
        return term

    def test_arguments_within_arguments(self):
        world = world_of(self.TEXT)
        big = ("const", "big")
        told = self.nested(90, apply(("const", "d"), [applied(("const", "one"), big), applied(("const", "h"), ZERO)]))
        found = self.nested(90, apply(("const", "d"), [applied(("const", "two"), big), applied(("const", "h"), V0)]))
        world.signature.add_axiom("f", pi(("_", applied(("const", "Q"), told)), lifted(applied(("const", "Q"), told), 1)))
        world.signature.add_axiom("q", pi(("n", NAT), applied(("const", "Q"), found)))
        raw = ("app", ("name", "q"), ("hole",))
        for _ in range(93):
            raw = ("app", ("name", "f"), raw)
        elaborator = Elaborator(world.signature, world.implicits)
        term, _ = within(FEW + 50, lambda: elaborator.infer(raw, ()))
        self.assertEqual(elaborator.finished(term)[2][2][0], "app")
        self.assertEqual(size(elaborator.finished(term)), 2 * 93 + 3)

    def test_implicit_arguments_within_each_other(self):
        world = world_of(self.TEXT)
        raw = ("name", "q0")
        for _ in range(30):
            raw = ("app", ("name", "nest"), raw)
        elaborator = Elaborator(world.signature, world.implicits)
        term, kind = within(FEW, lambda: elaborator.infer(raw, ()))
        self.assertEqual(elaborator.full(kind), applied(("const", "Q"), self.nested(30, ("const", "a"))))
        self.assertEqual(elaborator.finished(term), elaborator.full(term))

    def test_holes_whose_kinds_hang_on_each_other(self):
        # Each implicit argument is found when the kind of the one after it is: all of them by the last argument.
        many = 30
        world = world_of("axiom T : Type; axiom F : T -> Type; axiom N : forall (t : T), F t -> T; axiom t0 : T;")
        kind = applied(("const", "F"), V0)
        rows = [("t", ("const", "T"))]
        for number in range(many):
            rows.append((f"f{number}", kind))
            kind = applied(("const", "F"), applied(("const", "N"), lifted(kind, 1)[2], V0))
        axiom = binders("pi", rows + [("last", kind)], ("const", "T"))
        signature = world.signature
        made = applied(("const", "F"), ("const", "t0"))
        for number in range(many + 1):
            signature.add_axiom(f"c{number}", made)
            made = applied(("const", "F"), applied(("const", "N"), made[2], ("const", f"c{number}")))
        signature.add_axiom("take", axiom)
        elaborator = Elaborator(signature, {"take": many + 1})
        raw = ("app", ("name", "take"), ("name", f"c{many}"))
        term, _ = within(FEW, lambda: elaborator.infer(raw, ()))
        names = [("const", f"c{number}") for number in range(many + 1)]
        self.assertEqual(elaborator.full(term), apply(("const", "take"), [("const", "t0"), *names]))


if __name__ == "__main__":
    unittest.main()
