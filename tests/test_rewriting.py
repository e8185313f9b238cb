"""Rewriting by proved equations from left to right: rules, their order, the steps, and the proofs."""

import inspect
import random
import unittest

from kernelstack import rewriting
from kernelstack.checker import check_all, is_proof
from kernelstack.equality import equal_statement
from kernelstack.errors import DataFault, KindFault, NameFault, StepFault, TermError
from kernelstack.rewriting import Rewriter, Rule, matched, read_rule
from kernelstack.terms import check_term, same
from kernelstack.world import world_of
from naive_kernel import Naive
from samples import NAT, NEXT, PROP, TYPE, V0, V1, ZERO, applied
from stock import lam, num

TEXT = """
data nat : Type | O | S (n : nat) end;
data eq {A : Type} (a : A) : A -> Prop | refl : eq A a a end;
data list {A : Type} : Type | nil | cons (x : A) (l : list A) end;
axiom add : nat -> nat -> nat; axiom mul : nat -> nat -> nat; axiom acc : nat -> nat -> nat;
axiom add_O : forall (n : nat), eq nat (add O n) n;
axiom add_S : forall (n m : nat), eq nat (add (S n) m) (S (add n m));
axiom mul_O : forall (n : nat), eq nat (mul O n) O;
axiom mul_S : forall (n m : nat), eq nat (mul (S n) m) (add m (mul n m));
axiom acc_O : forall (n : nat), eq nat (acc O n) n;
axiom acc_S : forall (n m : nat), eq nat (acc (S n) m) (acc n (S m));
axiom a : nat; axiom b : nat; axiom c : nat; axiom f : nat -> nat; axiom g : nat -> nat; axiom k : nat -> nat -> nat;
axiom ab : eq nat a b; axiom ba : eq nat b a; axiom bc : eq nat b c; axiom ac : eq nat a c;
axiom fg : eq (nat -> nat) f g; axiom ff : forall (n : nat), eq nat (f (f n)) n; axiom fa : eq nat (f a) b;
axiom twice : forall (n : nat), eq nat (k n n) n; axiom gg : forall (n : nat), eq nat (g n) (g n);
axiom grow : forall (n : nat), eq nat (g n) (S (g n)); axiom wide : forall (n : nat), eq nat (g n) (g (S n));
axiom swap : forall (n m : nat), eq nat (k n m) (k m n);
axiom join : forall (A : Type), list A -> list A -> list A;
axiom join_nil : forall (A : Type) (l : list A), eq (list A) (join A (@nil A) l) l;
axiom join_cons : forall (A : Type) (x : A) (l m : list A),
  eq (list A) (join A (cons x l) m) (cons x (join A l m));
axiom p : Prop; axiom q : p; axiom only : forall (n : nat) (x : p), eq nat (f n) n;
axiom var_left : forall (n : nat), eq nat n O; axiom new_right : forall (n : nat), eq nat a n;
axiom fun_left : eq (nat -> nat) (fun x => x) f; axiom head : forall (h : nat -> nat), eq nat (h a) b;
axiom under : forall (h : nat -> nat), eq nat (k (h a) O) b; axiom sort_left : forall (A : Type), eq nat a a;
axiom pick : forall (A : Type), nat; axiom picked : eq nat (pick nat) a; axiom kind_left : eq nat (pick (nat -> nat)) a;
theorem proved : forall (n : nat), eq nat (S (add n O)) (S (add n O)) := fun (n : nat) => refl (S (add n O));
axiom vec : nat -> Type; axiom make : forall (n : nat), vec n; axiom weigh : forall (n : nat), vec n -> nat;
"""
WORLD = world_of(TEXT)
SIGNATURE = WORLD.signature
SUMS = ("add_O", "add_S", "mul_O", "mul_S", "acc_O", "acc_S")


def term_of(text):
    """Return the term of a text."""
    return WORLD.term_of(text)[0]


def eq(one, other, kind=NAT):
    """Return the statement that two terms are equal."""
    return applied(("const", "eq"), kind, one, other)


NAIVE = Naive()
for row in SIGNATURE.order:
    NAIVE.add(row)


class Rewriting(unittest.TestCase):
    def bring(self, rules, text, told, steps=None, kind=NAT):
        """Test what a term is brought to, in how many steps, that a bound just suffices, and the proof."""
        term = term_of(text)
        one = Rewriter(SIGNATURE, rules)
        found, proof = one.rewritten(term)
        self.assertEqual(found, term_of(told) if isinstance(told, str) else told)
        if steps is not None:
            self.assertEqual(one.steps, steps)
        check_term(proof)
        statement = equal_statement(kind, term, found)
        self.assertTrue(is_proof(SIGNATURE, proof, statement))
        NAIVE.steps = 0
        self.assertTrue(same(NAIVE.kind_of(proof, ()), NAIVE.normal(statement)))
        self.assertEqual(Rewriter(SIGNATURE, rules, one.steps).rewritten(term), (found, proof))
        if one.steps > 0:
            less = Rewriter(SIGNATURE, rules, one.steps - 1)
            with self.assertRaises(StepFault):
                less.rewritten(term)
            self.assertEqual(less.steps, 0)
        self.assertEqual(Rewriter(SIGNATURE, rules).rewritten(found)[0], found)
        return one


class TestRules(Rewriting):
    def test_interface(self):
        for name, told in (
            ("Rule", "(name, many, kind, left, right)"),
            ("read_rule", "(signature, name)"),
            ("matched", "(pattern, term, values)"),
        ):
            self.assertEqual(str(inspect.signature(getattr(rewriting, name))), told)
        self.assertEqual(str(inspect.signature(Rewriter)).partition("=")[0], "(signature, names, most")
        for name in ("step_at", "rewritten"):
            self.assertEqual(str(inspect.signature(vars(Rewriter)[name])), "(self, term)")
        one = Rewriter(SIGNATURE, ())
        self.assertEqual((one.signature, one.steps), (SIGNATURE, 0))
        rule = Rule("r", 2, NAT, V0, V1)
        self.assertEqual((rule.name, rule.many, rule.kind, rule.left, rule.right), ("r", 2, NAT, V0, V1))

    def test_read_rule(self):
        for name, many, kind, left, right in (
            ("ab", 0, NAT, ("const", "a"), ("const", "b")),
            ("ff", 1, NAT, applied(("const", "f"), applied(("const", "f"), V0)), V0),
            ("add_S", 2, NAT, applied(("const", "add"), applied(NEXT, V1), V0), applied(NEXT, applied(
                ("const", "add"), V1, V0))),
            ("join_nil", 2, applied(("const", "list"), V1),
             applied(("const", "join"), V1, applied(("const", "nil"), V1), V0), V0),
            ("proved", 1, NAT, applied(NEXT, applied(("const", "add"), V0, ZERO)),
             applied(NEXT, applied(("const", "add"), V0, ZERO))),
            ("picked", 0, NAT, applied(("const", "pick"), NAT), ("const", "a")),
            ("twice", 1, NAT, applied(("const", "k"), V0, V0), V0),
        ):
            rule = read_rule(SIGNATURE, name)
            self.assertEqual((rule.name, rule.many, rule.kind, rule.left, rule.right), (name, many, kind, left, right))

    def test_what_is_no_rule(self):
        for name in ("var_left", "new_right", "fun_left", "head", "under", "sort_left", "kind_left", "only", "a", "q",
                     "p", "nat", "S", "refl", "join"):
            with self.assertRaises(StepFault, msg=name):
                read_rule(SIGNATURE, name)
            with self.assertRaises(StepFault, msg=name):
                Rewriter(SIGNATURE, ("ab", name))
        with self.assertRaises(NameFault):
            read_rule(SIGNATURE, "nowhere")
        with self.assertRaises(NameFault):
            Rewriter(SIGNATURE, ("nowhere",))
        with self.assertRaises(DataFault):
            Rewriter(check_all((("axiom", "p", PROP),)), ())

    def test_matched(self):
        f, k, a = (("const", name) for name in "fka")
        for pattern, term, told in (
            (a, a, {}),
            (a, ("const", "b"), None),
            (applied(f, V0), applied(f, a), {0: a}),
            (applied(f, V0), a, None),
            (a, applied(f, a), None),
            (applied(k, V1, V0), applied(k, a, ZERO), {1: a, 0: ZERO}),
            (applied(k, V0, V0), applied(k, a, a), {0: a}),
            (applied(k, V0, V0), applied(k, a, ZERO), None),
            (applied(k, V0, applied(f, V0)), applied(k, applied(f, a), applied(f, applied(f, a))), {0: applied(f, a)}),
            (applied(k, V0, applied(f, V0)), applied(k, a, applied(f, ZERO)), None),
            (applied(f, V0), applied(f, lam(("x", NAT), V0)), {0: lam(("x", NAT), V0)}),
            (V0, TYPE, {0: TYPE}),
            (applied(f, V0), applied(k, V0, V0), None),
        ):
            values = {}
            self.assertIs(matched(pattern, term, values), told is not None, (pattern, term))
            if told is not None:
                self.assertEqual(values, told)
        values = {0: a}
        self.assertTrue(matched(applied(k, V0, V1), applied(k, a, ZERO), values))
        self.assertEqual(values, {0: a, 1: ZERO})
        self.assertFalse(matched(V0, ZERO, {0: a}))


class TestRewriting(Rewriting):
    def test_sums_and_products(self):
        for one in range(6):
            for other in range(6):
                self.bring(SUMS, f"add {one} {other}", num(one + other), one + 1)
        for one in range(5):
            for other in range(4):
                self.bring(SUMS, f"mul {one} {other}", num(one * other), 2 * one + 1 + one * other)
        self.bring(SUMS, "add (mul 2 3) (mul 3 2)", num(12))
        self.bring(SUMS, "acc 10 3", num(13), 11)
        self.bring(SUMS, "add 20 20", num(40), 21)
        self.bring(SUMS, "add (add a 1) (add 1 b)", "add (add a 1) (S b)", 2)
        self.bring(SUMS, "add 2 (add a 3)", "S (S (add a 3))", 3)

    def test_what_no_rule_fits(self):
        self.bring(("ab",), "f (k b O)", "f (k b O)", 0)
        self.bring((), "a", "a", 0)
        self.bring(("ab",), "fun (x : nat) => a", "fun (x : nat) => a", 0,
                   term_of("nat -> nat"))
        self.bring(("ab",), "let x : nat := a in x", "let x : nat := a in x", 0)

    def test_the_first_rule_first(self):
        self.bring(("ac", "ab"), "a", "c", 1)
        self.bring(("ab", "ac"), "a", "b", 1)
        self.bring(("ab", "ac", "bc"), "a", "c", 2)
        self.bring(("bc", "ab"), "k a b", "k c c", 3)
        self.bring(("fa", "ab"), "f a", "f b", 1)
        self.bring(("ff", "fg"), "f (f (f a))", "g (g (g a))", 3)

    def test_parts_before_the_whole(self):
        # f is brought to g before f (f n) is looked at as a whole, and a to b before f a is.
        self.bring(("fa", "fg"), "f a", "g a", 1)
        self.bring(("ff",), "f (f (f (f a)))", "a", 2)
        self.bring(("ff",), "f (f (f a))", "f a", 1)
        self.bring(("twice", "ab"), "k a b", "b", 2)
        self.bring(("twice", "add_O"), "k (add O a) (k a a)", "a", 3)

    def test_functions(self):
        self.bring(("fg",), "f", "g", 1, term_of("nat -> nat"))
        self.bring(("fg", "ab"), "k (f a) (f (f a))", "k (g b) (g (g b))", 5)
        self.bring(("ab",), "k a", "k b", 1, term_of("nat -> nat"))

    def test_lists(self):
        kind = term_of("list nat")
        self.bring(("join_nil", "join_cons"), "join nat (cons 1 (cons 2 (@nil nat))) (cons a (@nil nat))",
                   "cons 1 (cons 2 (cons a (@nil nat)))", 3, kind)
        self.bring(("join_nil", "ab"), "join nat (@nil nat) (cons a (@nil nat))", "cons b (@nil nat)", 2, kind)

    def test_where_kinds_hang_on_arguments(self):
        # Neither the argument of make nor what weigh is applied to is looked into.
        self.bring(("ab",), "make a", "make a", 0, term_of("vec a"))
        self.bring(("ab",), "weigh a (make a)", "weigh a (make a)", 0)
        self.bring(("picked",), "k (pick nat) (pick nat)", "k a a", 2)

    def test_steps_add_up(self):
        one = Rewriter(SIGNATURE, SUMS, 10)
        one.rewritten(term_of("add 3 1"))
        self.assertEqual(one.steps, 4)
        one.rewritten(term_of("add 4 1"))
        self.assertEqual(one.steps, 9)
        with self.assertRaises(StepFault):
            one.rewritten(term_of("add 4 1"))
        self.assertEqual(one.steps, 9)
        one.rewritten(term_of("add O 1"))
        with self.assertRaises(StepFault):
            one.step_at(term_of("add O 1"))
        self.assertIsNone(one.step_at(term_of("S O")))
        self.assertEqual(one.steps, 10)

    def test_one_step(self):
        one = Rewriter(SIGNATURE, ("ac", "ab", "add_S", "twice"))
        for text, told in (("a", "c"), ("add 2 b", "S (add 1 b)"), ("k (f a) (f a)", "f a"), ("b", None), ("k a b", None),
                           ("f a", None), ("S", None)):
            term = term_of(text)
            steps = one.steps
            found = one.step_at(term)
            if told is None:
                self.assertIsNone(found)
                self.assertEqual(one.steps, steps)
                continue
            self.assertEqual(one.steps, steps + 1)
            self.assertEqual(found[0], term_of(told))
            self.assertTrue(is_proof(SIGNATURE, found[1], eq(term, found[0])))

    def test_rules_that_never_come_to_an_end(self):
        for rules, text in ((("ab", "ba"), "a"), (("gg",), "g O"), (("grow",), "g O"), (("wide",), "g O"),
                            (("swap",), "k a b"), (("swap",), "S (k a b)"), (("wide",), "f (g a)")):
            for most in (1000, 10, 1):
                one = Rewriter(SIGNATURE, rules, most)
                with self.assertRaises(StepFault, msg=(rules, text)):
                    one.rewritten(term_of(text))
                self.assertEqual(one.steps, 0)
            with self.assertRaises(StepFault):
                Rewriter(SIGNATURE, rules).rewritten(term_of(text))

    def test_what_is_refused(self):
        one = Rewriter(SIGNATURE, ("ab",))
        for fault, term in (
            (StepFault, NAT),
            (StepFault, ("const", "q")),
            (StepFault, TYPE),
            (StepFault, ("const", "join")),
            (NameFault, ("const", "nowhere")),
            (KindFault, V0),
            (KindFault, applied(NEXT, V0)),
            (KindFault, applied(ZERO, ZERO)),
            (TermError, ("sort", 13)),
            (TermError, num(100)),
            (TermError, num(5000)),
        ):
            with self.assertRaises(fault) as caught:
                one.rewritten(term)
            self.assertIs(type(caught.exception), fault)
            self.assertEqual(one.steps, 0)
        self.assertEqual(one.rewritten(("const", "a"))[0], ("const", "b"))

    def test_proofs_that_are_too_large(self):
        one = Rewriter(SIGNATURE, SUMS)
        with self.assertRaises(StepFault):
            one.rewritten(term_of("mul 9 9"))
        self.assertEqual(one.steps, 0)
        one.rewritten(term_of("add 1 1"))

    def test_drawn_terms(self):
        chance = random.Random(121)
        for _ in range(60):
            term = ("const", "a")
            for _ in range(chance.randrange(1, 5)):
                way = chance.randrange(4)
                other = chance.choice((ZERO, num(2), ("const", "b"), applied(("const", "f"), ("const", "a"))))
                if way == 0:
                    term = applied(("const", "add"), other, term)
                elif way == 1:
                    term = applied(("const", "k"), term, other)
                else:
                    term = applied(("const", chance.choice("fS")), term)
            rules = chance.sample(("add_O", "add_S", "ab", "fg", "ff", "fa", "twice", "bc"), chance.randrange(1, 6))
            one = Rewriter(SIGNATURE, rules)
            found, proof = one.rewritten(term)
            self.assertTrue(is_proof(SIGNATURE, proof, eq(term, found)))
            self.assertEqual((found, one.steps), self.plainly(rules, term))

    def plainly(self, rules, term):
        """Return (what a term is brought to, in how many steps) by trying rules on functions, arguments, and the whole."""
        steps = 0
        if term[0] == "app":
            function, many = self.plainly(rules, term[1])
            argument, more = self.plainly(rules, term[2])
            term, steps = ("app", function, argument), many + more
        found = Rewriter(SIGNATURE, rules).step_at(term)
        if found is None:
            return (term, steps)
        term, more = self.plainly(rules, found[0])
        return (term, steps + 1 + more)


if __name__ == "__main__":
    unittest.main()
