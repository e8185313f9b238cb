"""Sessions: each form of line with its answer, faults, undo, and proofs that go on step by step."""

import inspect
import random
import unittest
from unittest import mock

from kernelstack.checker import check_all
from kernelstack.errors import (
    DataFault,
    FileFault,
    HoleFault,
    KindFault,
    NameFault,
    StepFault,
    TermError,
    TextError,
    WorkFault,
)
from kernelstack.session import Session, fresh_names
from test_mutations import GOALS, NAMES, TERMS
from texts import BASE, state

NUMBERS = "data nat : Type | O | S (n : nat) end"


def begun(*lines):
    """Return a session with numbers and what some lines declare."""
    session = Session()
    for line in (NUMBERS, *lines):
        answer = session.enter(line)
        assert not answer.startswith("error"), (line, answer)
    return session


def seen(session):
    """Return all that a session shows: its worlds, and its proof."""
    worlds = [state(world) for world in session.worlds]
    if session.proof is None:
        return (worlds, None)
    proof = session.proof
    return (worlds, session.label, session.rows, session.claimed, proof.goals, proof.term, proof.many,
            dict(proof.elaborator.solved), dict(proof.elaborator.kinds), len(session.past))


class Sessions(unittest.TestCase):
    def expect(self, session, *rows):
        """Enter lines and compare the answers; what is refused must change nothing."""
        for line, told in rows:
            before = seen(session)
            with self.subTest(line):
                self.assertEqual(session.enter(line), told)
                if told.startswith("error"):
                    self.assertEqual(seen(session), before)


class TestLines(Sessions):
    def test_interface(self):
        for name, told in (("newest", "(self)"), ("enter", "(self, line)"), ("step", "(self, text)"),
                           ("finish", "(self)")):
            self.assertEqual(str(inspect.signature(vars(Session)[name])), told)
        self.assertEqual(str(inspect.signature(Session)), "()")
        self.assertEqual(Session().newest().signature.order, [])

    def test_declarations(self):
        session = Session()
        self.expect(
            session,
            ("", "added 0"),
            (NUMBERS, "added 1"),
            ("axiom p : Prop; axiom q : p; def two : nat := 2;", "added 3"),
            ("  -- a comment\n theorem t : p := q;", "added 1"),
            ("theorem u (x : p) : p by exact x;", "added 1"),
            ("data unit : Type | tt end;", "added 1"),
        )
        self.assertEqual([row[1] for row in session.newest().signature.order],
                         ["nat", "p", "q", "two", "t", "u", "unit"])
        self.assertEqual(session.newest().theorems, ["t", "u"])

    def test_check_and_eval(self):
        self.expect(
            begun("axiom p : Prop; def plus (n m : nat) : nat := rec[nat 1] (fun x => nat) m (fun k h => S h) n;"),
            ("check S", "@nat -> @nat"),
            ("check plus", "@nat -> @nat -> @nat"),
            ("check fun (x : p) => x", "@p -> @p"),
            ("  check(S O)", "@nat"),
            ("check forall (A : Type), A", "Type 1"),
            ("eval plus 2 1", "@S (@S (@S @O))"),
            ("eval fun (x : nat) => plus 1 x", "fun (x : @nat) => @S x"),
            ("eval\nS O -- one", "@S @O"),
            ("check", "error: text"),
            ("eval", "error: text"),
            ("check S O;", "error: text"),
            ("check S O O", "error: kind"),
            ("check nowhere", "error: name"),
            ("check ?", "error: hole"),
            ("check Type 12", "error: term"),
            ("check Type 11", "error: kind"),
            ("eval 61", "error: text"),
            ("check S" + " O" * 120, "error: term"),
            ("checks S", "error: text"),
        )

    def test_needs_and_axioms(self):
        self.expect(
            begun("axiom p : Prop; axiom q : p; theorem t : p := q; axiom f : nat -> p -> Prop;"
                  "axiom g : forall (x : p), f 2 x; def h : f 2 q := g q;"),
            ("needs p", ""),
            ("needs q", "p"),
            ("needs t", "p q"),
            ("needs O", "nat"),
            ("needs h", "O S f g nat p q"),
            ("axioms h", "p q f g"),
            ("axioms t", "p q"),
            ("axioms p", "p"),
            ("axioms S", ""),
            ("needs nowhere", "error: name"),
            ("axioms nowhere", "error: name"),
            ("needs", "error: text"),
            ("axioms", "error: text"),
            ("needs p q", "error: text"),
            ("axioms p;", "error: text"),
            ("needs 1", "error: text"),
        )

    def test_same(self):
        self.expect(
            begun("axiom n : nat; def plus (n m : nat) : nat := rec[nat 1] (fun x => nat) m (fun k h => S h) n;"),
            ("same plus 2 2; 4", "yes"),
            ("same plus 2 2;5", "no"),
            ("same n; n", "yes"),
            ("same plus n 0; n", "no"),
            ("same fun (x : nat) => x; fun (y : nat) => plus 0 y", "yes"),
            ("same O; nat", "no"),
            ("same O -- or; this\n; O", "yes"),
            ("same O", "error: text"),
            ("same", "error: text"),
            ("same O O", "error: text"),
            ("same ; O", "error: text"),
            ("same O;", "error: text"),
            ("same O; O;", "error: text"),
            ("same O; nowhere", "error: name"),
            ("same O O; O", "error: kind"),
            ("same O; ?", "error: hole"),
        )

    def test_faults(self):
        self.expect(
            begun("axiom p : Prop;"),
            ("axiom a", "error: text"),
            ("axiom a : p", "error: text"),
            ("nowhere", "error: text"),
            ("def a : nat := 61;", "error: text"),
            ("$", "error: text"),
            ("axiom a : Type 12;", "error: term"),
            ("axiom p : Prop;", "error: name"),
            ("axiom a : nowhere;", "error: name"),
            ("axiom a : O;", "error: kind"),
            ("theorem t : nat := O;", "error: kind"),
            ("def a : nat := nat;", "error: kind"),
            ("data d : Type | c (x : d -> d) end;", "error: data"),
            ("axiom a : ?;", "error: hole"),
            ("theorem t : p by assumption;", "error: step"),
            ("axiom a : Prop; axiom b : a; axiom c : O;", "error: kind"),
            ("axiom a : Prop; axiom b :", "error: text"),
        )
        # No line leads to a FileFault by itself.
        session = Session()
        for fault, word in ((TextError, "text"), (TermError, "term"), (NameFault, "name"), (KindFault, "kind"),
                            (DataFault, "data"), (HoleFault, "hole"), (StepFault, "step"), (FileFault, "file"),
                            (WorkFault, "work")):
            with mock.patch.object(Session, "undo", side_effect=fault("")):
                self.assertEqual(session.enter("undo"), f"error: {word}")

    def test_too_much_work(self):
        double = "".join([f"def d{number + 1} : nat -> nat := fun n => d{number} (d{number} n); "
                          for number in range(20)])
        self.expect(begun("def d0 : nat -> nat := fun n => S n; " + double), ("eval d20 O", "error: work"))


class TestUndo(Sessions):
    def test_lines(self):
        session = begun("axiom p : Prop; axiom q : Prop;", "axiom r : p;")
        worlds = [state(world) for world in session.worlds]
        self.expect(session, ("check p", "Prop"), ("axiom p : Prop;", "error: name"), ("undo", "undone"))
        self.assertEqual(state(session.newest()), worlds[2])
        self.expect(session, ("check r", "error: name"), ("undo", "undone"), ("check q", "error: name"),
                    ("axiom q : Type;", "added 1"), ("undo", "undone"), ("undo", "undone"), ("undo", "error: step"),
                    ("undo", "error: step"), ("axiom p : Prop;", "added 1"), ("undo now", "error: text"),
                    ("undo", "undone"), ("undo", "error: step"))
        self.assertEqual(state(session.newest()), worlds[0])

    def test_steps_and_proofs(self):
        session = begun("axiom p : Prop;")
        self.expect(
            session,
            ("claim t : p -> p -> p", "1: @p -> @p -> @p"),
            ("step intro a", "1: @p -> @p"),
            ("step intro b", "1: @p"),
            ("undo", "1: @p -> @p"),
            ("step intro c", "1: @p"),
            ("step exact b", "error: step"),
            ("step exact c", "no goals"),
            ("undo", "1: @p"),
            ("undo", "1: @p -> @p"),
            ("undo", "1: @p -> @p -> @p"),
            ("undo", "undone"),
            ("step intro a", "error: step"),
            ("check p", "Prop"),
            ("undo", "undone"),
            ("check p", "error: name"),
        )

    def test_what_was_proved(self):
        session = begun("axiom p : Prop;")
        before = state(session.newest())
        self.expect(session, ("claim t : p -> p", "1: @p -> @p"), ("step intro a", "1: @p"),
                    ("step assumption", "no goals"), ("qed", "proved t"), ("check t", "@p -> @p"), ("undo", "undone"))
        self.assertEqual(state(session.newest()), before)
        self.expect(session, ("step intro a", "error: step"), ("qed", "error: step"))

    def test_a_hundred_steps(self):
        session = begun("axiom p : Prop;")
        self.expect(session, ("claim t : " + "p -> " * 50 + "p", "1: " + "@p -> " * 50 + "@p"))
        answers = ["1: " + "@p -> " * 50 + "@p"]
        for number in range(100):
            line = f"step intro x{number}" if number < 50 else f"step have y{number} : p"
            if number >= 50:
                line = "step show p"
            answers.append(session.enter(line))
            self.assertFalse(answers[-1].startswith("error"), number)
        for line in ("step assumption", "step show p", "step exact x0"):
            self.expect(session, (line, "error: step"))
        self.assertEqual(session.proof.many, 100)
        self.expect(session, ("undo", answers[99]), ("step exact x0", "no goals"), ("step exact x0", "error: step"))
        for number in reversed(range(100)):
            self.assertEqual(session.enter("undo"), answers[number])
        self.assertEqual(session.proof.many, 0)
        self.expect(session, ("undo", "undone"), ("qed", "error: step"))


class TestProofs(Sessions):
    def test_goals(self):
        session = begun("data and {a b : Prop} : Prop | both (x : a) (y : b) end;"
                        "data or {a b : Prop} : Prop | inl (x : a) | inr (y : b) end;")
        self.expect(
            session,
            ("claim t : forall (p q : Prop), and p q -> and q p",
             "1: forall (p : Prop), forall (q : Prop), (@and p q) -> @and q p"),
            ("step intro p q h", "1: @and q p"),
            ("step cases h", "1: @and q p"),
            ("step apply both", "2: q"),
            ("step exact x", "error: step"),
            ("step exact y", "1: p"),
            ("qed", "error: step"),
            ("step assumption", "no goals"),
            ("step assumption", "error: step"),
            ("qed", "proved t"),
            ("qed", "error: step"),
            ("check t", "forall (p : Prop), forall (q : Prop), (@and p q) -> @and q p"),
        )
        self.assertEqual(session.newest().theorems, ["t"])
        check_all(session.newest().signature.shown())
        self.expect(
            session,
            ("claim u : forall (p q : Prop), or p q -> or q p",
             "1: forall (p : Prop), forall (q : Prop), (@or p q) -> @or q p"),
            ("step intro p q h", "1: @or q p"),
            ("step cases h", "2: @or q p"),
            ("step exact inr ?", "2: p"),
            ("step assumption", "1: @or q p"),
            ("undo", "2: p"),
            ("step exact x", "1: @or q p"),
            ("step decide", "no goals"),
            ("qed", "proved u"),
        )

    def test_names_that_stand_twice(self):
        self.expect(
            begun("axiom p : nat -> nat -> Prop;"),
            ("claim t : forall (n n : nat), nat -> p n n", "1: @nat -> forall (n : @nat), @nat -> @p n n"),
            ("undo", "undone"),
            ("claim t : forall (n m : nat), nat -> p n m",
             "1: forall (n : @nat), forall (m : @nat), @nat -> @p n m"),
            ("step intro a", "1: forall (m : @nat), @nat -> @p a m"),
            ("step intro a", "1: @nat -> @p a a'"),
            ("step intro a", "1: @p a a'"),
            ("step have a : p a a", "2: @p a'' a''"),
        )
        self.assertEqual(fresh_names(()), ())
        self.assertEqual(fresh_names(("a",)), ("a",))
        self.assertEqual(fresh_names(("a", "b", "a", "a")), ("a''", "b", "a'", "a"))
        self.assertEqual(fresh_names(("a", "a'", "a")), ("a''", "a'", "a"))
        self.assertEqual(fresh_names(("a'", "a", "a")), ("a''", "a'", "a"))
        chance = random.Random(91)
        for _ in range(200):
            names = tuple(chance.choice(("a", "a'", "b", "a''")) for _ in range(chance.randrange(7)))
            found = fresh_names(names)
            self.assertEqual(len(set(found)), len(names))
            for one, other in zip(found, names):
                self.assertTrue(one.startswith(other) and one[len(other):].replace("'", "") == "")

    def test_rows(self):
        session = begun("axiom p : Prop;")
        self.expect(session, ("claim t {n : nat} (x : p) : p", "1: @p"), ("step exact x", "no goals"),
                    ("qed", "proved t"), ("check @t", "@nat -> @p -> @p"),
                    ("claim u (x : nat) {n : nat} : p", "error: text"))
        self.assertEqual(session.newest().implicits["t"], 1)

    def test_claims_that_are_refused(self):
        self.expect(
            begun("axiom p : Prop;"),
            ("claim t : nat", "error: step"),
            ("claim t : p -> nat", "error: step"),
            ("claim t : Prop", "error: step"),
            ("claim t : O", "error: kind"),
            ("claim t : p O", "error: kind"),
            ("claim t : nowhere", "error: name"),
            ("claim p : p", "error: name"),
            ("claim O : p", "error: name"),
            ("claim t : forall (x : ?), p", "error: hole"),
            ("claim t : Type 12", "error: term"),
            ("claim t : p;", "error: text"),
            ("claim t p", "error: text"),
            ("claim t", "error: text"),
            ("claim", "error: text"),
            ("claim def : p", "error: text"),
            (f"claim {'x' * 41} : p", "error: name"),
            (f"claim {'x' * 40} : p", "1: @p"),
        )

    def test_steps_that_are_refused(self):
        session = begun("axiom p : Prop;")
        for line in ("step intro a", "qed", "step", "step nowhere"):
            self.expect(session, (line, "error: step"))
        self.expect(
            session,
            ("claim t : p -> p", "1: @p -> @p"),
            ("step", "error: text"),
            ("step nowhere", "error: text"),
            ("step intro", "error: text"),
            ("step intro a;", "error: text"),
            ("step intro a, assumption", "error: text"),
            ("step exact nowhere", "error: step"),
            ("step exact O", "error: step"),
            ("step exact Type 12", "error: step"),
            ("step intro a b", "error: step"),
            ("qed", "error: step"),
            ("qed now", "error: text"),
            ("step exact ?", "1: @p -> @p"),
            ("step intro a", "1: @p"),
        )
        for call in (lambda: Session().step("intro a"), lambda: Session().finish()):
            with self.assertRaises(StepFault):
                call()
        with self.assertRaises(TextError):
            session.step("nowhere")
        with self.assertRaises(StepFault):
            session.step("intro b")
        with self.assertRaises(StepFault):
            session.finish()
        self.assertEqual(session.step("assumption"), "no goals")
        self.assertIsNone(session.finish())
        self.assertEqual(session.newest().theorems, ["t"])

    def test_other_lines_in_the_middle_of_a_proof(self):
        session = begun("axiom p : Prop;")
        self.expect(
            session,
            ("claim t : p -> p", "1: @p -> @p"),
            ("check p", "Prop"),
            ("axiom p : Prop;", "error: name"),
            ("axiom q", "error: text"),
            ("claim u : nat", "error: step"),
            ("claim p : p", "error: name"),
            ("step intro a", "1: @p"),
            ("axiom q : Prop;", "added 1"),
            ("step exact a", "error: step"),
            ("qed", "error: step"),
            ("claim t : p -> p", "1: @p -> @p"),
            ("step intro a", "1: @p"),
            ("claim u : q -> q", "1: @q -> @q"),
            ("step exact fun (x : q) => x", "no goals"),
            ("qed", "proved u"),
            ("check t", "error: name"),
        )

    def test_goals_with_holes(self):
        self.expect(
            begun("data eq {A : Type} (a : A) : A -> Prop | refl : eq A a a end;"
                  "axiom by_both : forall (a b c : nat), eq nat a b -> eq nat b c -> eq nat a c;"),
            ("claim t : forall (a b : nat), eq nat a b -> eq nat a b",
             "1: forall (a : @nat), forall (b : @nat), (@eq @nat a b) -> @eq @nat a b"),
            ("step intro a b h", "1: @eq @nat a b"),
            ("step apply by_both", "3: @nat"),
            ("undo", "1: @eq @nat a b"),
            ("step apply by_both a ? b", "3: @nat"),
            ("step exact b", "2: @eq @nat a b"),
            ("step exact h", "1: @eq @nat b b"),
            ("step exact refl ?", "no goals"),
            ("qed", "proved t"),
        )

    def test_a_proof_that_the_kernel_refuses(self):
        session = begun("axiom p : nat -> Prop; axiom q : forall (n : nat), p n;")
        deep = "S (" * 50 + "?" + ")" * 50
        self.expect(session, ("claim t : p O", "1: @p @O"), ("step exact (fun (n : nat) => q O) ?", "1: @nat"),
                    (f"step exact {deep}", "1: @nat"), (f"step exact {deep}", "1: @nat"), ("step exact O", "no goals"),
                    ("qed", "error: step"), ("undo", "1: @nat"))

    def test_goals_that_are_deeper_than_terms(self):
        session = begun("data eq {A : Type} (a : A) : A -> Prop | refl : eq A a a end;"
                        "axiom by_both : forall (a b c : nat), eq nat a b -> eq nat b c -> eq nat a c;")
        deep = "S (" * 50 + "?" + ")" * 50
        for line in ("claim t : forall (a b : nat), eq nat a b -> eq nat a b", "step intro a b h", "step apply by_both"):
            session.enter(line)
        for _ in range(60):
            self.assertEqual(session.enter(f"step exact {deep}"), "3: @nat")
        number = "@S (" * 2999 + "@S @O" + ")" * 2999
        self.assertEqual(session.enter("step exact O"), f"2: @eq @nat a ({number})")
        for step in ("assumption", "reckon", "decide", "exact refl ?", "exact h", "search 3", "show eq nat a ?"):
            self.expect(session, (f"step {step}", "error: step"))
        self.assertTrue(session.enter("step cases h").startswith("2: @eq @nat a"))
        self.assertTrue(session.enter("undo").startswith("2: @eq @nat a"))

    def test_drawn_steps(self):
        chance = random.Random(92)
        start = Session()
        start.enter(BASE.replace("| none", "| no"))
        told = {"done": 0, "error": 0, "proved": 0}
        for _ in range(240):
            session = Session()
            session.worlds = list(start.worlds)
            goal = chance.choice(GOALS)
            answers = [session.enter(f"claim fresh : {goal}")]
            if answers[0].startswith("error"):
                continue
            states = [seen(session)]
            for _ in range(25):
                word = chance.choice(("intro", "intro", "exact", "apply", "cases", "assumption", "decide", "search 2"))
                if word == "intro":
                    word = f"intro {chance.choice(NAMES)}"
                elif word in ("exact", "apply", "cases"):
                    word = f"{word} {chance.choice(TERMS)}"
                answer = session.enter(f"step {word}")
                if answer.startswith("error"):
                    self.assertEqual(seen(session), states[-1], word)
                    told["error"] += 1
                else:
                    answers.append(answer)
                    states.append(seen(session))
                    told["done"] += 1
                if chance.random() < 0.15 and len(answers) > 1:
                    answers.pop()
                    states.pop()
                    self.assertEqual(session.enter("undo"), answers[-1])
                    self.assertEqual(seen(session), states[-1])
            if answers[-1] == "no goals":
                self.assertEqual(session.enter("qed"), "proved fresh")
                check_all(session.newest().signature.shown())
                told["proved"] += 1
                self.assertEqual(session.enter("undo"), "undone")
                self.assertEqual([state(one) for one in session.worlds], [state(one) for one in start.worlds])
                continue
            self.assertEqual(session.enter("qed"), "error: step")
            while len(answers) > 1:
                answers.pop()
                states.pop()
                self.assertEqual(session.enter("undo"), answers[-1])
                self.assertEqual(seen(session), states[-1])
            self.assertEqual(session.enter("undo"), "undone")
        self.assertGreater(min(told.values()), 10, told)


if __name__ == "__main__":
    unittest.main()
