"""Values and normal terms far deeper than calls may be: they are reckoned, compared and checked without recursion."""

import unittest

from kernelstack.checker import Checker
from kernelstack.equal import Comparer
from kernelstack.errors import KernelError, KindFault, WorkFault
from kernelstack.session import Session
from kernelstack.signature import Signature
from kernelstack.terms import apply, is_deeper, lifted, same
from kernelstack.values import Reckoner
from kernelstack.world import world_of
from samples import NAT, PROP, V0, ZERO, applied
from shallow import within
from stock import lam, num, pi

NAMES = " ".join([f"x{number}" for number in range(90)])
TEXT = f"""data nat : Type | O | S (n : nat) end
def add (a b : nat) : nat := rec[nat 1] (fun x => nat) b (fun n h => S h) a;
axiom A : Type; axiom a : A; axiom e : A; axiom c : forall ({NAMES} : A), A; axiom d : forall ({NAMES} : A), A;
def it (n : nat) : A := rec[nat 1] (fun x => A) a (fun n h => c h {"a " * 89}) n;
def other (n : nat) : A := rec[nat 1] (fun x => A) e (fun n h => c h {"a " * 89}) n;
def last (n : nat) : A := rec[nat 1] (fun x => A) a (fun n h => c {"a " * 89} h) n;
def wide (n : nat) : A := rec[nat 1] (fun x => A) a (fun n h => c h {"a " * 88} e) n;
axiom P : A -> Prop; axiom p : P (it (add 60 60)); axiom g : P (it (add 60 60)) -> nat; axiom q : P a;
axiom r : P (other (add 60 60)); axiom s : P (wide (add 60 60)); axiom t : P (it (add 60 59));
axiom l : P (last (add 60 60)); axiom m : P (last (add 60 60)) -> nat;
"""
WORLD = world_of(TEXT)
FEW = 200


def term_of(text):
    """Return a text's term."""
    return WORLD.term_of(text)[0]


class TestDeepKinds(unittest.TestCase):
    def answers(self, name, value):
        """Return whether the kernel adds a function "value" applied to what a constant function gives."""
        world = WORLD.copied()
        text = f"def {name} : nat := (fun (z : nat) => {value[0]}) O ((fun (z : nat) => {value[1]}) O);"
        try:
            return within(FEW, lambda: world.add_text(text)) == 1
        except KindFault:
            self.assertNotIn(name, world.signature.kinds)
            return False

    def test_kinds_with_deep_normal_terms(self):
        self.assertTrue(is_deeper(Reckoner(WORLD.signature).normal(term_of("it (add 60 60)")), 10000))
        self.assertTrue(self.answers("fresh", ("g", "p")))
        self.assertTrue(self.answers("fresh", ("m", "l")))
        for name in "qrst":
            self.assertFalse(self.answers("fresh", ("g", name)), name)

    def test_in_a_session(self):
        session = Session()
        self.assertEqual(session.enter(TEXT), "added 20")
        for name, answer in (("it", "yes"), ("wide", "no"), ("other", "no")):
            line = f"same it (add 60 60); {name} (add (add 59 1) 60)"
            self.assertEqual(within(2 * FEW, lambda: session.enter(line)), answer)

    def test_a_goal_that_becomes_too_large_is_a_refused_step(self):
        session = Session()
        session.enter(TEXT)
        goal = session.enter("claim u : P (it (add 60 60))")
        self.assertEqual(goal[:3], "1: ")
        self.assertEqual(within(2 * FEW, lambda: session.enter("step reckon")), "error: step")
        self.assertEqual(session.enter("step show P (it (add 60 60))"), goal)
        self.assertEqual(session.enter("step exact p"), "no goals")
        self.assertEqual(session.enter("qed"), "proved u")
        session.enter("claim v : P (it 3)")
        self.assertEqual(session.enter("step reckon")[:11], "1: @P (@c (")

    def test_normal_terms_are_found_again(self):
        for text in ("it (add 60 60)", "last (add 60 60)", "wide (add 59 60)"):
            term = term_of(text)
            normal = within(FEW, lambda: Reckoner(WORLD.signature).normal(term))
            self.assertTrue(within(FEW, lambda: Comparer(WORLD.signature, 200000).equal_terms(term, normal)))
            self.assertTrue(within(FEW, lambda: Comparer(WORLD.signature, 200000).equal_terms(normal, normal)))
            again = Reckoner(WORLD.signature).normal(term_of("wide 3"))
            self.assertFalse(within(FEW, lambda: Comparer(WORLD.signature, 200000).equal_terms(again, normal)))

    def test_deep_terms_that_are_told(self):
        left, right, heads = V0, V0, V0
        for _ in range(2000):
            left, right = applied(left, ZERO), applied(("const", "c"), right)
            heads = applied(lam(("x", PROP), heads), ZERO)
        for one in (left, right):
            exchanged = applied(one, one)
            comparer = Comparer(Signature(), 200000)
            self.assertTrue(within(FEW, lambda: comparer.equal_terms(one, one, 1)))
            self.assertTrue(within(FEW, lambda: comparer.equal_terms(exchanged, exchanged, 1)))
            self.assertFalse(within(FEW, lambda: comparer.equal_terms(lifted(one, 1), one, 2)))
        # The heads of applications are not gone through by calls, either.
        self.assertTrue(within(FEW, lambda: Comparer(Signature(), 200000).equal_terms(heads, heads, 1)))

    def test_settled_values(self):
        checker = Checker(WORLD.signature)
        kind = within(FEW * 2, lambda: checker.infer(term_of("l")))
        context = checker.bind((), "w", kind)
        self.assertEqual(within(FEW * 2, lambda: checker.infer(applied(("const", "m"), V0), context)[:2]),
                         ("stuck", NAT))
        context = checker.bind((), "w", within(FEW * 2, lambda: checker.infer(term_of("q"))))
        with self.assertRaises(KindFault):
            within(FEW * 2, lambda: checker.infer(applied(("const", "m"), V0), context))

    def test_reckonings_within_each_other_are_bounded_as_before(self):
        for most in range(170, 190):
            term = ("sort", 0)
            for _ in range(most):
                term = pi(("x", term), PROP)
            answers = []
            for call in (lambda: Reckoner(Signature()).normal(term),
                         lambda: Comparer(Signature(), 200000).equal_terms(term, pi(("y", PROP), PROP))):
                try:
                    within(FEW, call)
                    answers.append(True)
                except WorkFault:
                    answers.append(False)
            self.assertEqual(answers[0], most < 180, most)
            self.assertTrue(answers[1])


class TestDeepKindsAsTold(unittest.TestCase):
    """What is told in the same way, but for variables, is the same without being reckoned, however deep it would be."""

    TEXT = """data and {a b : Prop} : Prop | both (x : a) (y : b) end def not (a : Prop) : Prop := a;
    def idp {A : Prop} (x : A) : A := x; axiom F : Prop -> Prop; axiom nat : Type; """
    BODIES = ("(" * 50 + "h" + " -> p)" * 50, "(not " * 50 + "h" + ")" * 50, "p -> " * 50 + "h", "(and p " * 50 + "h" + ")" * 50)

    def test_declarations(self):
        world = world_of(self.TEXT)
        number = 0
        for body in self.BODIES:
            deep = f"(fun (f : Prop -> Prop) => {'(f ' * 20}p{')' * 20}) (fun (h : Prop) => {body})"
            for rows, kind, value in ((f"(x : {deep})", deep, "x"), (f"(x : {deep})", deep, "idp x"),
                                      (f"(x : F ({deep}))", f"F ({deep})", "idp x"), (f"(x : {deep}) (n : nat)", deep, "x"),
                                      (f"(x : {deep})", deep, f"let y : {deep} := idp x in y")):
                number += 1
                text = f"def t{number} (p : Prop) {rows} : {kind} := {value};"
                self.assertEqual(within(2 * FEW, lambda: world.add_text(text)), 1)
            with self.assertRaises(KernelError):
                within(2 * FEW, lambda: world.add_text(f"def t (p : Prop) (x : {deep}) : F ({deep}) := x;"))


class TestUnboundVariables(unittest.TestCase):
    def test_variables_that_are_compared_are_bound(self):
        unbound = (V0, ("var", 7), lam(("x", PROP), ("var", 1)), pi(("x", PROP), ("var", 3)), applied(NAT, ("var", 2)),
                   lam(("x", PROP), applied(("const", "f"), ("var", 2))), lam(("x", ("var", 4)), V0),
                   lam(("x", PROP), ("y", PROP), applied(V0, ("var", 9))), ("let", "x", PROP, NAT, ("var", 1)))
        for depth in (0, 1, 2):
            for one in unbound:
                for more in (0, 1):
                    many = depth + more
                    told = lifted(one, many)
                    row = (told, lifted(told, 1))
                    for pair in (row, row[::-1], (told, told)):
                        with self.assertRaises(KindFault, msg=(pair, depth)):
                            Comparer(Signature(), 1000).equal_terms(pair[0], pair[1], depth)

    def test_bound_ones(self):
        one, other = lam(("x", PROP), ("var", 1)), lam(("x", PROP), ("var", 2))
        for depth in (2, 3, 10):
            self.assertFalse(Comparer(Signature(), 1000).equal_terms(one, other, depth))
            self.assertTrue(Comparer(Signature(), 1000).equal_terms(one, one, depth))
        with self.assertRaises(KindFault):
            Comparer(Signature(), 1000).equal_terms(one, other, 1)


class TestRefusedCalls(unittest.TestCase):
    def refused(self, make, call, bounds=range(150)):
        """Return how often a call is refused by small bounds; no unfoldings are counted then, but all steps are."""
        many = 0
        for most in bounds:
            one = make(most)
            try:
                call(one)
                self.assertGreater(one.unfoldings, 0)
            except WorkFault:
                many += 1
                self.assertEqual(one.unfoldings, 0)
                self.assertGreater(one.steps, 0)
        return many

    def test_all_calls(self):
        one, other = term_of("add 5 5"), term_of("add 6 4")
        calls = (lambda own: own.equal_terms(one, other), lambda own: own.normal(one), lambda own: own.value(one, ()),
                 lambda own: own.enter((one, ()), ("sort", 0)),
                 lambda own: own.equal_terms(lam(("x", NAT), one), lam(("x", NAT), other)))
        for call in calls:
            many = self.refused(lambda most: Comparer(WORLD.signature, most), call)
            self.assertGreater(many, 2)
            self.assertLess(many, 150)

    def test_back(self):
        value = Reckoner(WORLD.signature).value(lam(("x", NAT), term_of("add 3 3")), ())
        self.assertLess(self.refused(lambda most: Comparer(WORLD.signature, most), lambda own: own.back(value, 0)), 150)

    def test_checkers(self):
        kind = applied(("const", "P"), term_of("it (add 1 1)"))
        world = WORLD.copied()
        world.add_text("axiom w : P (it 2);")
        term = applied(lam(("z", kind), V0), ("const", "w"))

        def checker(most):
            return Checker(world.copied().signature, most)

        for call in (lambda own: own.add(("def", "fresh", kind, term)), lambda own: own.kind_term(term),
                     lambda own: own.infer(term), lambda own: own.add(("def", "fresh", kind, ("const", "w")))):
            many = self.refused(checker, call, range(0, 900, 7))
            self.assertGreater(many, 2)
            self.assertLess(many, 125)
        own = Checker(WORLD.signature)
        own.normal(term_of("add 2 2"))
        before = own.unfoldings
        for bad in (("def", "fresh", kind, ("const", "q")), ("def", "fresh", term_of("P (it 3)"), ("const", "p"))):
            steps = own.steps
            with self.assertRaises(KernelError):
                own.add(bad)
            self.assertEqual(own.unfoldings, before)
            self.assertGreater(own.steps, steps)

    def test_what_differs_visibly_is_not_tried_in_vain(self):
        for one, other in (("add 5 5", "add 6 4"), ("add 2 2", "add 3 1")):
            comparer = Comparer(WORLD.signature, 200000)
            self.assertTrue(comparer.equal_terms(term_of(one), term_of(other)))
            self.assertLess(comparer.steps, 119)
        comparer = Comparer(WORLD.signature, 200000)
        self.assertTrue(comparer.equal_terms(apply(("const", "it"), [num(9)]), term_of("it (add 4 5)")))
        self.assertTrue(same(comparer.normal(num(3)), num(3)))


if __name__ == "__main__":
    unittest.main()
