"""Elaboration: raw terms to terms: names are found, holes and implicit arguments filled in by unification."""

from kernelstack.errors import HoleFault, KernelError, KindFault, NameFault, TextError
from kernelstack.holes import filled, holes_of, moved
from kernelstack.parser import need_term
from kernelstack.terms import lifted, lowest_free, pi_level, put_in, same, spine
from kernelstack.unifying import Unifier

MOST_NUMBER = 60
# A proof may be larger than what elaboration works with: decide makes great ones.
MOST_NODES_FULL = 1000000
NAT = ("const", "nat")


class Elaborator(Unifier):
    """A signature, which arguments of names are implicit, and what holes stand for.

    While it works, terms may have ("meta", number, terms) for holes; a context is (name, kind, value or None) rows,
    the nearest first, whose kinds and values stand under the rows after them. A hole's terms are for the variables of
    its context, the nearest first.
    """

    def __init__(self, signature, implicits):
        Unifier.__init__(self, signature)
        self.implicits = implicits

    def new_hole(self, context, kind):
        """Return a fresh hole of a kind, applied to the context's variables."""
        return self.hole_of(context, kind)

    def full(self, term):
        """Return a term with solved holes filled in."""
        return self.filled_in(term, MOST_NODES_FULL)

    def infer(self, raw, context):
        """Return (term, kind) of a raw term."""
        kept = self.kept()
        steps = self.steps
        try:
            need_term(raw)
            found = self.inferred(raw, context)
            self.check_late()
            return found
        except KernelError:
            self.come_back(kept)
            self.steps = steps
            raise

    def inferred(self, raw, context):
        """Return (term, kind) of a raw term; holes are made and solved before it is refused."""
        word = raw[0]
        if word == "app":
            return self.application(raw, context)
        if word in ("name", "explicit"):
            return self.named(raw, context)
        if word == "number":
            return (self.number(raw[1]), NAT)
        if word == "sort":
            return (raw, self.sort_kind(raw[1]))
        if word == "rec":
            return (raw, self.recursor_kind_found(raw))
        if word == "arrow":
            return self.arrow(raw, context)
        if word in ("pi", "lam"):
            return self.under_binder(raw, context)
        if word == "let":
            context, kind, value = self.local_definition(raw, context)
            body, found = self.inferred(raw[4], context)
            return (("let", raw[1], kind, value, body), self.need_size(put_in(found, value)))
        kind = self.untold_kind(context)
        return (self.new_hole(context, kind), kind)

    def named(self, raw, context):
        """Return (term, kind) of a name: of the nearest variable, or of a constant with its implicit arguments."""
        name = raw[1]
        for number, row in enumerate(context):
            if row[0] == name:
                return (("var", number), lifted(row[1], number + 1))
        term = ("const", name)
        kind = self.signature.kind_of(name)
        many = self.implicits.get(name, 0) if raw[0] == "name" else 0
        for _ in range(many):
            kind = self.product_of(kind, context)
            hole = self.new_hole(context, kind[2])
            term = ("app", term, hole)
            kind = self.need_size(put_in(kind[3], hole))
        return (term, kind)

    def product_of(self, kind, context):
        """Return a kind as a product; raise KindFault if it is none, HoleFault if it is not known."""
        if kind[0] != "pi":
            kind = self.head(self.filled_in(kind), context)
        if spine(kind)[0][0] == "meta":
            raise HoleFault("the kind of what is applied is not found")
        if kind[0] != "pi":
            raise KindFault("what is no function is applied")
        return kind

    def application(self, raw, context):
        """Return (term, kind) of a raw application."""
        arguments = []
        while raw[0] == "app":
            arguments.append(raw[2])
            raw = raw[1]
        term, kind = self.inferred(raw, context)
        for argument in reversed(arguments):
            kind = self.product_of(kind, context)
            value = self.checked(argument, kind[2], context)
            term = ("app", term, value)
            kind = self.need_size(put_in(kind[3], value))
        return (term, kind)

    def arrow(self, raw, context):
        """Return (term, kind) of a raw kind of functions."""
        kind, level = self.kind_found_of(raw[1], context)
        body, other = self.kind_found_of(raw[2], context)
        return (("pi", "_", kind, lifted(body, 1)), ("sort", pi_level(level, other)))

    def under_binder(self, raw, context):
        """Return (term, kind) of a raw product or function."""
        word, name = raw[0], raw[1]
        kind, level = self.kind_found_of(raw[2], context)
        inner = ((name, kind, None),) + context
        if word == "pi":
            body, other = self.kind_found_of(raw[3], inner)
            return (("pi", name, kind, body), ("sort", pi_level(level, other)))
        body, found = self.inferred(raw[3], inner)
        return (("lam", name, kind, body), ("pi", name, kind, found))

    def local_definition(self, raw, context):
        """Return (context with the variable, its kind, its value) of a raw local definition."""
        kind, _ = self.kind_found_of(raw[2], context)
        value = self.filled_in(self.checked(raw[3], kind, context))
        kind = self.filled_in(kind)
        return (((raw[1], kind, value),) + context, kind, value)

    def checked(self, raw, kind, context):
        """Return the term of a raw term that is to have a kind."""
        if raw[0] == "hole":
            return self.new_hole(context, kind)
        if raw[0] == "let":
            inner, own, value = self.local_definition(raw, context)
            return ("let", raw[1], own, value, self.checked(raw[4], lifted(kind, 1), inner))
        if raw[0] == "lam":
            expected = self.head(self.filled_in(kind), context)
            if expected[0] == "pi":
                return self.checked_function(raw, expected, context)
        term, found = self.inferred(raw, context)
        self.fit(term, found, kind, context)
        return term

    def checked_function(self, raw, expected, context):
        """Return the term of a raw function that is to have a product as its kind."""
        kind, _ = self.kind_found_of(raw[2], context)
        self.unified(kind, expected[2], context)
        return ("lam", raw[1], kind, self.checked(raw[3], expected[3], ((raw[1], kind, None),) + context))

    def number(self, number):
        """Return a number as a term of the data nat; raise TextError for more than 60, NameFault without nat."""
        if number > MOST_NUMBER:
            raise TextError(f"a number is above {MOST_NUMBER}")
        for name in ("O", "S"):
            if self.signature.owners.get(name) != "nat":
                raise NameFault("numbers need the data nat with O and S")
        term = ("const", "O")
        for _ in range(number):
            term = ("app", ("const", "S"), term)
        return term

    def kind_of(self, raw, context):
        """Return (term, level) of a raw kind; a hole where none is told is of level 1."""
        kept = self.kept()
        steps = self.steps
        try:
            if raw is not None:
                need_term(raw)
            found = self.kind_found_of(raw, context)
            self.check_late()
            return found
        except KernelError:
            self.come_back(kept)
            self.steps = steps
            raise

    def kind_found_of(self, raw, context):
        """Return (term, level) of a raw kind; holes are made and solved before it is refused."""
        if raw is None:
            return (self.row_kind(context), 1)
        if raw == ("hole",):
            return (self.untold_kind(context), 1)
        term, kind = self.inferred(raw, context)
        kind = self.head(self.filled_in(kind), context)
        if kind[0] != "sort":
            raise KindFault("a term is no kind")
        return (term, kind[1])

    def unify(self, one, other, context):
        """Solve holes so that two terms are the same; raise HoleFault or KindFault if that is not found."""
        kept = self.kept()
        steps = self.steps
        try:
            self.unified(one, other, context)
            self.check_late()
        except KernelError:
            self.come_back(kept)
            self.steps = steps
            raise

    def are_equal(self, one, other, context):
        """Return True if two terms without holes are the same when they are reckoned."""
        return self.compared(one, other, context)

    def finished(self, term):
        """Return a term without holes; raise HoleFault if one is not solved."""
        found = self.need_size(self.filled_in(term))
        if has_holes(found):
            raise HoleFault("what a hole stands for is not found")
        return found


def has_holes(term):
    """Return True if a term has holes."""
    return holes_of(term) != []


def deepest(term, depth=0):
    """Return how many binders must stand around a term without holes."""
    return lowest_free(term, depth)


def lifted_meta(term, many, start=0):
    """Return a term, perhaps with holes, whose variables from a number on are greater by so many."""
    return lifted(term, many, start)


def put_in_meta(term, value, start=0):
    """Return a term, perhaps with holes, with a value in the place of a variable; greater variables are less by one."""
    return put_in(term, value, start)


def placed(term, values, start=0):
    """Return a term with values in the places of its free variables: the first value for the nearest variable."""
    return filled(term, values, start)


def renamed(term, places, depth, hole):
    """Return a term with its free variables renamed, None if one has no new name, or the hole is in it."""
    return moved(term, places, depth, hole)


def same_meta(one, other):
    """Return True if two terms, perhaps with holes, are the same but for binders' names."""
    return same(one, other)


def count_implicit(rows):
    """Return how many rows at the beginning are implicit; raise TextError if a later one is."""
    many = 0
    while many < len(rows) and rows[many][2]:
        many += 1
    if any(row[2] for row in rows[many:]):
        raise TextError("implicit arguments stand first")
    return many
