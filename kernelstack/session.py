"""Session: a world that grows line by line, with answers as texts, and proofs that go on step by step."""

from kernelstack.declare import claim_of, implicit_of
from kernelstack.depends import all_needs, axioms_of
from kernelstack.elaborate import Elaborator
from kernelstack.equal import Comparer
from kernelstack.errors import (DataFault, FileFault, HoleFault, KernelError, KindFault, NameFault, StepFault,
                                TermError, TextError, WorkFault)
from kernelstack.lexer import END, skip_blanks, token_at
from kernelstack.parser import Reader
from kernelstack.printer import fresh, term_text
from kernelstack.proof import Proof
from kernelstack.terms import binders
from kernelstack.values import MOST_STEPS
from kernelstack.world import World, closed_context

WORDS_OF_LINES = ("check", "eval", "needs", "axioms", "same", "claim", "step", "qed", "undo")


class Session:
    """The worlds so far, the newest last, and the proof that is under way, with its name, rows and kind."""

    def __init__(self):
        self.worlds = [World()]
        self.begin_proof(None, "", [], None, {})

    def newest(self):
        """Return the newest world."""
        return self.worlds[-1]

    def enter(self, line):
        """Carry out a line and return its answer; "error: " and a fault's word for one that cannot be."""
        try:
            return self.carry_out(line)
        except TextError:
            return "error: text"
        except TermError:
            return "error: term"
        except NameFault:
            return "error: name"
        except KindFault:
            return "error: kind"
        except DataFault:
            return "error: data"
        except HoleFault:
            return "error: hole"
        except StepFault:
            return "error: step"
        except FileFault:
            return "error: file"
        except WorkFault:
            return "error: work"

    def carry_out(self, line):
        """Carry out a line and return its answer; raise a fault for one that cannot be."""
        place = skip_blanks(line, 0)
        word = token_at(line, place).text if place < len(line) else ""
        rest = line[place + len(word):]
        if word not in WORDS_OF_LINES:
            return self.add_line(line)
        if word == "step":
            return self.step(rest)
        if word in ("needs", "axioms"):
            names_of = all_needs if word == "needs" else axioms_of
            return " ".join(names_of(self.newest().signature, name_alone(rest)))
        if word in ("qed", "undo"):
            need_end(Reader(rest))
            return self.end_proof() if word == "qed" else self.undo()
        if word == "claim":
            return self.claim(rest)
        if word == "same":
            return self.same(rest)
        return self.newest().kind_text(rest) if word == "check" else self.newest().value_text(rest)

    def add_line(self, line):
        """Add the declarations of a line, and end the proof under way."""
        world = self.newest().copied()
        many = world.add_text(line)
        self.grow(world)
        return f"added {many}"

    def grow(self, world):
        """Go on with another world, without a proof under way."""
        self.worlds.append(world)
        self.begin_proof(None, "", [], None, {})

    def begin_proof(self, proof, name, rows, kind, implicits):
        """Begin a proof of a claim, or none."""
        self.proof = proof
        self.label = name
        self.rows = rows
        self.claimed = kind
        self.marks = implicits
        # What the proof was before each of its steps.
        self.past = []

    def same(self, text):
        """Return whether two terms are the same when they are reckoned."""
        place = end_of_term(text)
        one, _ = self.newest().term_of(text[:place])
        other, _ = self.newest().term_of(text[place + 1:])
        are_same = Comparer(self.newest().signature, MOST_STEPS).equal_terms(one, other)
        return "yes" if are_same else "no"

    def claim(self, text):
        """Begin a proof of a statement, and return its goal."""
        reader = Reader(text)
        raw = reader.claim()
        need_end(reader)
        world = self.newest()
        world.signature.need_fresh(raw[1])
        implicits = implicit_of(raw)
        rows, kind = claim_of(Elaborator(world.signature, world.implicits), raw)
        proof = Proof(world.signature, world.implicits, closed_context(rows), kind)
        self.begin_proof(proof, raw[1], rows, kind, implicits)
        return self.goal_text()

    def goal_text(self):
        """Return the number of goals of the proof under way, and the first one."""
        if self.proof.goals == []:
            return "no goals"
        _, context, kind = self.proof.first()
        return f"{len(self.proof.goals)}: {term_text(kind, fresh_names([row[0] for row in context]))}"

    def step(self, text):
        """Carry out a step of the proof under way and return the next goal; raise StepFault without a proof."""
        if self.proof is None:
            raise StepFault("no proof is under way")
        reader = Reader(text)
        step = reader.proof_step()
        need_end(reader)
        before = self.proof.state()
        self.proof.step(step)
        self.past.append(before)
        return self.goal_text()

    def finish(self):
        """Add the claim with its proof; raise StepFault if goals are left."""
        if self.proof is None:
            raise StepFault("no proof is under way")
        value = binders("lam", self.rows, self.proof.finish())
        world = self.newest().copied()
        try:
            world.add_checked(("def", self.label, binders("pi", self.rows, self.claimed), value), self.marks, True)
        except KernelError as fault:
            raise StepFault(f"the kernel refuses the proof: {str(fault)}")
        self.grow(world)

    def end_proof(self):
        """Add the claim with its proof, and return the answer."""
        name = self.label
        self.finish()
        return f"proved {name}"

    def undo(self):
        """Undo the last step, or the proof under way, or the last line's declarations."""
        if self.proof is not None and self.past != []:
            self.proof.go_back(self.past.pop())
            return self.goal_text()
        if self.proof is not None:
            self.begin_proof(None, "", [], None, {})
        elif len(self.worlds) > 1:
            self.worlds.pop()
        else:
            raise StepFault("nothing is left to undo")
        return "undone"


def need_end(reader):
    """Raise TextError if a text goes on."""
    reader.take(END)


def name_alone(text):
    """Return the name that a text is; raise TextError for another text."""
    reader = Reader(text)
    name = reader.take("name")
    need_end(reader)
    return name


def end_of_term(text):
    """Return the place of the first ";" of a text; raise TextError if there is none."""
    for token in Reader(text).tokens:
        if token.kind == ";":
            return token.place
    raise TextError("a second term is missing")


def fresh_names(names):
    """Return names, the nearest first, in which none stands twice: nearer ones get quotes."""
    found = []
    for name in reversed(names):
        found.append(fresh(name, found))
    return tuple(reversed(found))
