"""Texts with tokens exchanged, left out and doubled, and proofs by drawn steps: nothing is added but by the kernel."""

import random
import unittest

from kernelstack.checker import Checker, check_all
from kernelstack.errors import KernelError, StepFault
from kernelstack.lexer import tokenize
from kernelstack.parser import Reader
from kernelstack.proof import Proof
from kernelstack.world import World
from test_indices import MORE
from test_proof import seen
from texts import BASE, state

TEXT = BASE.replace("| none", "| no") + MORE
WORDS = (
    "?",
    "@",
    "fun",
    "forall",
    "let",
    "rec",
    "60",
    "61",
    "Type",
    "Prop",
    "x",
    "n",
    "A",
    "nat",
    ";",
    ",",
    "by",
    "end",
)

GOALS = (
    "forall (P Q : Prop), P -> Q -> and P Q",
    "forall (n : nat), eq nat (plus n 0) n",
    "forall (A : Type) (n : nat) (v : vec A n), eq nat (count A n v) n",
    "forall (P Q R : Prop), or P Q -> (P -> R) -> (Q -> R) -> R",
    "forall (A : Type) (a b c : A), eq A a b -> eq A b c -> eq A a c",
    "forall (A : Type) (P : A -> Prop) (a b : A), eq A a b -> P a -> P b",
    "forall (n : nat), nat",
    "nat -> nat -> bool",
    "forall (P : Prop), not (not (or P (not P)))",
    "Type",
    "forall (A : Type), list A -> list A",
)
NAMES = ("A", "P", "Q", "R", "a", "b", "c", "n", "v", "p", "q", "h", "f", "x", "_")
TERMS = NAMES + (
    "refl ? ?",
    "?",
    "both ? ? ? ?",
    "cong ? ? S",
    "cong nat nat S",
    "O",
    "S ?",
    "plus n n",
    "fun x => x",
    "fun x => ?",
    "inl ? ? ?",
    "inr P Q ?",
    "nil ?",
    "no",
    "h a",
    "f ?",
    "id ?",
    "rec[nat 0] ? ? ? n",
    "counted",
    "eq nat n n",
    "nat",
    "Prop",
    "let x : ? := ? in x",
    "(fun x => ?) ?",
)
KINDS = ("eq nat ? ?", "P", "Q", "and P Q", "eq ? a b", "nat", "? -> ?", "eq nat n n")


def whole(text):
    """Return the texts of a text's declarations, as lists of tokens."""
    found, row = [], []
    for token in tokenize(text)[:-1]:
        row.append(token.text)
        if token.text == ";":
            found.append(row)
            row = []
    return found


class TestTexts(unittest.TestCase):
    def changed(self, chance, row):
        """Return tokens with some exchanged, left out, doubled or moved."""
        row = list(row)
        for _ in range(chance.choice((1, 1, 1, 2))):
            at = chance.randrange(len(row))
            way = chance.randrange(4)
            if way == 0 and len(row) > 1:
                del row[at]
            elif way == 1:
                row.insert(at, row[at])
            elif way == 2:
                row[at] = chance.choice(WORDS + tuple(row))
            else:
                other = chance.randrange(len(row))
                row[at], row[other] = row[other], row[at]
        return " ".join(row)

    def test_changed_declarations(self):
        chance = random.Random(41)
        world = World()
        told = {}
        for row in whole(TEXT):
            for _ in range(60):
                one = world.copied()
                before = state(one)
                text = self.changed(chance, row)
                try:
                    one.add_text(text)
                except KernelError as fault:
                    told[type(fault).__name__] = told.get(type(fault).__name__, 0) + 1
                    if text.count(";") < 2:
                        self.assertEqual(state(one), before, text)
                    continue
                told["added"] = told.get("added", 0) + 1
                fresh = check_all(one.signature.shown())
                self.assertEqual(fresh.kinds, one.signature.kinds)
            world.add_text(" ".join(row))
        for name in ("added", "TextError", "KindFault", "NameFault", "HoleFault", "StepFault"):
            self.assertGreater(told.get(name, 0), 5, told)
        self.assertEqual(
            set(told) - {"added", "TextError", "KindFault", "NameFault", "HoleFault", "StepFault", "DataFault"}, set()
        )


class TestSteps(unittest.TestCase):
    def drawn(self, chance):
        """Return the text of a drawn step."""
        word = chance.choice(
            (
                "intro",
                "intro",
                "exact",
                "exact",
                "apply",
                "apply",
                "cases",
                "induction",
                "show",
                "have",
                "assumption",
                "search",
                "reckon",
                "unfold",
                "decide",
            )
        )
        if word == "intro":
            return "intro " + " ".join(chance.choice(NAMES) for _ in range(chance.randrange(1, 4)))
        if word in ("exact", "apply"):
            return f"{word} {chance.choice(TERMS)}"
        if word in ("cases", "induction"):
            return f"{word} {chance.choice(TERMS if chance.random() < 0.3 else NAMES)}"
        if word == "show":
            return f"show {chance.choice(KINDS)}"
        if word == "have":
            return f"have {chance.choice(NAMES)} : {chance.choice(KINDS)}"
        return f"search {chance.randrange(4)}" if word == "search" else word

    def test_drawn_steps(self):
        chance = random.Random(42)
        world = World()
        world.add_text(TEXT)
        told = {"done": 0, "refused": 0, "finished": 0}
        for _ in range(150):
            kind, _ = world.term_of(chance.choice(GOALS))
            proof = Proof(world.signature, world.implicits, (), kind)
            steps = []
            for _ in range(40):
                if proof.goals == []:
                    break
                text = self.drawn(chance)
                before = seen(proof)
                try:
                    proof.step(Reader(text).proof_step())
                    steps.append(text)
                    told["done"] += 1
                except StepFault:
                    told["refused"] += 1
                    self.assertEqual(seen(proof), before, text)
            self.assertEqual(proof.many, len(steps))
            if proof.goals == []:
                told["finished"] += 1
                Checker(world.signature.copied()).add(("def", "fresh", kind, proof.finish()))
        self.assertGreater(min(told.values()), 20, told)


if __name__ == "__main__":
    unittest.main()
