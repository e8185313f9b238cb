"""World: declarations from texts, elaborated, proved by steps, and checked by the kernel."""

from kernelstack.checker import Checker
from kernelstack.declare import axiom_of, claim_of, closed_rows, data_of, definition_of, implicit_of
from kernelstack.elaborate import Elaborator
from kernelstack.parser import parse_file, parse_term
from kernelstack.printer import term_text
from kernelstack.proof import Proof
from kernelstack.signature import Signature
from kernelstack.terms import binders
from kernelstack.values import Reckoner


class World:
    """A signature, how many arguments of each name are implicit, and the names of theorems."""

    def __init__(self):
        self.signature = Signature()
        self.implicits = {}
        self.theorems = []

    def copied(self):
        """Return a world of the same declarations."""
        other = World()
        other.signature = self.signature.copied()
        other.implicits = dict(self.implicits)
        other.theorems = list(self.theorems)
        return other

    def add_text(self, text):
        """Add the declarations of a text, each checked by the kernel, and return how many; raise what checking raises.

        Those before a refused one stay.
        """
        rows = parse_file(text)
        for row in rows:
            self.add_raw(row)
        return len(rows)

    def add_raw(self, raw):
        """Add a raw declaration."""
        declaration, implicits = self.elaborated(raw)
        self.add_checked(declaration, implicits, raw[0] == "theorem")

    def add_checked(self, declaration, implicits, is_theorem):
        """Add a declaration, if the kernel does, with the numbers of implicit arguments of its names."""
        Checker(self.signature).add(declaration)
        for name, many in implicits.items():
            self.implicits[name] = many
        if is_theorem:
            self.theorems.append(declaration[1])

    def elaborated(self, raw):
        """Return (declaration, numbers of implicit arguments) of a raw declaration."""
        if raw[0] == "data":
            return data_of(self.signature, self.implicits, raw)
        self.signature.need_fresh(raw[1])
        elaborator = Elaborator(self.signature, self.implicits)
        if raw[0] == "axiom":
            return axiom_of(elaborator, raw)
        if raw[0] == "theorem" and raw[4] is None:
            return self.proved(elaborator, raw)
        return definition_of(elaborator, raw)

    def proved(self, elaborator, raw):
        """Return (declaration, numbers of implicit arguments) of a raw theorem that is proved by steps."""
        implicits = implicit_of(raw)
        rows, kind = claim_of(elaborator, raw)
        proof = Proof(self.signature, self.implicits, closed_context(rows), kind)
        for step in raw[5]:
            proof.step(step)
        value = binders("lam", rows, proof.finish())
        return (("def", raw[1], binders("pi", rows, kind), value), implicits)

    def term_of(self, text):
        """Return (term, kind) of a text's term, checked by the kernel."""
        elaborator = Elaborator(self.signature, self.implicits)
        term, _ = elaborator.infer(parse_term(text), ())
        term = elaborator.finished(term)
        return (term, Checker(self.signature).kind_term(term))

    def kind_text(self, text):
        """Return the text of a term's kind."""
        _, kind = self.term_of(text)
        return term_text(kind)

    def value_text(self, text):
        """Return the text of a term's normal term."""
        term, _ = self.term_of(text)
        return term_text(Reckoner(self.signature).normal(term))


def closed_context(rows):
    """Return the context after rows without holes."""
    return closed_rows(rows)


def world_of(text):
    """Return the world of a text; raise what checking raises."""
    world = World()
    world.add_text(text)
    return world
