"""Elaboration: raw terms to terms: names are found, holes and implicit arguments filled in by unification."""

from kernelstack.equal import Comparer
from kernelstack.errors import HoleFault, KernelError, KindFault, NameFault, TextError
from kernelstack.holes import Holes, filled, holes_of, moved
from kernelstack.parser import need_term
from kernelstack.terms import is_deeper, lifted, lowest_free, pi_level, put_in, same, spine
from kernelstack.values import MOST_STEPS, delayed, free

MOST_NUMBER = 60
# A proof may be larger than what elaboration works with: decide makes great ones.
MOST_NODES_FULL = 1000000
# In the middle of a proof terms may be deeper than the kernel takes: these are looked into step by step.
MOST_DEEP_COMPARED = 200
MOST_NESTED_FOUND = 150
NAT = ("const", "nat")
PROP = ("sort", 0)


class Elaborator(Holes):
    """A signature, which arguments of names are implicit, and what holes stand for.

    While it works, terms may have ("meta", number, terms) for holes; a context is (name, kind, value or None) rows,
    the nearest first, whose kinds and values stand under the rows after them. A hole's terms are for the variables of
    its context, the nearest first.
    """

    def __init__(self, signature, implicits):
        Holes.__init__(self, signature)
        self.implicits = implicits
        self.nesting = 0

    def new_hole(self, context, kind):
        """Return a fresh hole of a kind, applied to the context's variables."""
        return self.hole_of(context, kind)

    def full(self, term):
        """Return a term with solved holes filled in."""
        return self.filled_in(term, MOST_NODES_FULL)

    def infer(self, raw, context):
        """Return (term, kind) of a raw term."""
        kept = self.kept()
        steps = self.steps
        try:
            need_term(raw)
            found = self.inferred(raw, context)
            self.check_rows()
            return found
        except KernelError:
            self.come_back(kept)
            self.steps = steps
            raise

    def inferred(self, raw, context):
        """Return (term, kind) of a raw term; holes are made and solved before it is refused."""
        word = raw[0]
        if word == "app":
            return self.application(raw, context)
        if word in ("name", "explicit"):
            return self.named(raw, context)
        if word == "number":
            return (self.number(raw[1]), NAT)
        if word == "sort":
            return (raw, self.sort_kind(raw[1]))
        if word == "rec":
            return (raw, self.recursor_kind_found(raw))
        if word == "arrow":
            return self.arrow(raw, context)
        if word in ("pi", "lam"):
            return self.under_binder(raw, context)
        if word == "let":
            context, kind, value = self.local_definition(raw, context)
            body, found = self.inferred(raw[4], context)
            return (("let", raw[1], kind, value, body), self.need_size(put_in(found, value)))
        kind = self.untold_kind(context)
        return (self.new_hole(context, kind), kind)

    def named(self, raw, context):
        """Return (term, kind) of a name: of the nearest variable, or of a constant with its implicit arguments."""
        name = raw[1]
        for number, row in enumerate(context):
            if row[0] == name:
                return (("var", number), lifted(row[1], number + 1))
        term = ("const", name)
        kind = self.signature.kind_of(name)
        many = self.implicits.get(name, 0) if raw[0] == "name" else 0
        for _ in range(many):
            kind = self.product_of(kind, context)
            hole = self.new_hole(context, kind[2])
            term = ("app", term, hole)
            kind = self.need_size(put_in(kind[3], hole))
        return (term, kind)

    def product_of(self, kind, context):
        """Return a kind as a product; raise KindFault if it is none, HoleFault if it is not known."""
        if kind[0] != "pi":
            kind = self.head(self.filled_in(kind), context)
        if spine(kind)[0][0] == "meta":
            raise HoleFault("the kind of what is applied is not found")
        if kind[0] != "pi":
            raise KindFault("what is no function is applied")
        return kind

    def application(self, raw, context):
        """Return (term, kind) of a raw application."""
        arguments = []
        while raw[0] == "app":
            arguments.append(raw[2])
            raw = raw[1]
        term, kind = self.inferred(raw, context)
        for argument in reversed(arguments):
            kind = self.product_of(kind, context)
            value = self.checked(argument, kind[2], context)
            term = ("app", term, value)
            kind = self.need_size(put_in(kind[3], value))
        return (term, kind)

    def arrow(self, raw, context):
        """Return (term, kind) of a raw kind of functions."""
        kind, level = self.kind_found_of(raw[1], context)
        body, other = self.kind_found_of(raw[2], context)
        return (("pi", "_", kind, lifted(body, 1)), ("sort", pi_level(level, other)))

    def under_binder(self, raw, context):
        """Return (term, kind) of a raw product or function."""
        word, name = raw[0], raw[1]
        kind, level = self.kind_found_of(raw[2], context)
        inner = ((name, kind, None),) + context
        if word == "pi":
            body, other = self.kind_found_of(raw[3], inner)
            return (("pi", name, kind, body), ("sort", pi_level(level, other)))
        body, found = self.inferred(raw[3], inner)
        return (("lam", name, kind, body), ("pi", name, kind, found))

    def local_definition(self, raw, context):
        """Return (context with the variable, its kind, its value) of a raw local definition."""
        kind, _ = self.kind_found_of(raw[2], context)
        value = self.filled_in(self.checked(raw[3], kind, context))
        kind = self.filled_in(kind)
        return (((raw[1], kind, value),) + context, kind, value)

    def checked(self, raw, kind, context):
        """Return the term of a raw term that is to have a kind."""
        if raw[0] == "hole":
            return self.new_hole(context, kind)
        if raw[0] == "let":
            inner, own, value = self.local_definition(raw, context)
            return ("let", raw[1], own, value, self.checked(raw[4], lifted(kind, 1), inner))
        if raw[0] == "lam":
            expected = self.head(self.filled_in(kind), context)
            if expected[0] == "pi":
                return self.checked_function(raw, expected, context)
        term, found = self.inferred(raw, context)
        self.unified(found, kind, context)
        return term

    def checked_function(self, raw, expected, context):
        """Return the term of a raw function that is to have a product as its kind."""
        kind, _ = self.kind_found_of(raw[2], context)
        self.unified(kind, expected[2], context)
        return ("lam", raw[1], kind, self.checked(raw[3], expected[3], ((raw[1], kind, None),) + context))

    def number(self, number):
        """Return a number as a term of the data nat; raise TextError for more than 60, NameFault without nat."""
        if number > MOST_NUMBER:
            raise TextError(f"a number is above {MOST_NUMBER}")
        for name in ("O", "S"):
            if self.signature.owners.get(name) != "nat":
                raise NameFault("numbers need the data nat with O and S")
        term = ("const", "O")
        for _ in range(number):
            term = ("app", ("const", "S"), term)
        return term

    def kind_of(self, raw, context):
        """Return (term, level) of a raw kind; a hole where none is told is of level 1."""
        kept = self.kept()
        steps = self.steps
        try:
            if raw is not None:
                need_term(raw)
            found = self.kind_found_of(raw, context)
            self.check_rows()
            return found
        except KernelError:
            self.come_back(kept)
            self.steps = steps
            raise

    def kind_found_of(self, raw, context):
        """Return (term, level) of a raw kind; holes are made and solved before it is refused."""
        if raw is None:
            return (self.row_kind(context), 1)
        if raw == ("hole",):
            return (self.untold_kind(context), 1)
        term, kind = self.inferred(raw, context)
        kind = self.head(self.filled_in(kind), context)
        if kind[0] != "sort":
            raise KindFault("a term is no kind")
        return (term, kind[1])

    def unify(self, one, other, context):
        """Solve holes so that two terms are the same; raise HoleFault or KindFault if that is not found."""
        kept = self.kept()
        steps = self.steps
        try:
            self.unified(one, other, context)
            self.check_rows()
        except KernelError:
            self.come_back(kept)
            self.steps = steps
            raise

    def unified(self, one, other, context):
        """Solve holes so that two terms are the same; some are solved before that is found impossible."""
        waiting = [(one, other, context)]
        while waiting:
            one, other, context = waiting.pop()
            waiting.extend(list(reversed(self.left_to_unify(one, other, context))))

    def left_to_unify(self, one, other, context):
        """Solve a hole, or return (one, other, context) rows of terms that are to be made the same."""
        self.step()
        one = self.filled_in(one)
        other = self.filled_in(other)
        if same(one, other):
            return []
        if self.can_be_compared(one, other, context):
            if not self.are_equal(one, other, context):
                raise KindFault("a term has another kind than it must")
            return []
        if self.solve(one, other, context):
            self.need_kind(spine(one)[0][1])
            return []
        if self.solve(other, one, context):
            self.need_kind(spine(other)[0][1])
            return []
        if self.unified_arguments(one, other, context):
            return []
        first = self.head(one, context)
        second = self.head(other, context)
        if first != one or second != other:
            return [(first, second, context)]
        return self.pairs_of_parts(one, other, context)

    def can_be_compared(self, one, other, context):
        """Return True if two terms have no holes, and are such that the kernel can compare them."""
        if has_holes(one) or has_holes(other) or not self.has_known_values(context):
            return False
        return not is_deeper(one, MOST_DEEP_COMPARED) and not is_deeper(other, MOST_DEEP_COMPARED)

    def need_kind(self, number):
        """Raise KindFault if what a hole was found to stand for has another kind than the hole."""
        if number in self.untold:
            return
        context = self.contexts[number]
        kept = self.kept()
        try:
            self.unified(self.kind_found(self.solved[number], context), self.kinds[number], context)
        except HoleFault:
            self.come_back(kept)

    def unified_arguments(self, one, other, context):
        """Return True if two applications of the same definition or recursor were made the same by their arguments."""
        head, arguments = spine(one)
        opposite, others = spine(other)
        if head != opposite or len(arguments) != len(others) or arguments == []:
            return False
        if head[0] != "rec" and (head[0] != "const" or self.signature.value_of(head[1]) is None):
            return False
        if self.nesting >= MOST_NESTED_FOUND:
            return False
        kept = self.kept()
        self.nesting += 1
        try:
            for argument, another in zip(arguments, others):
                self.unified(argument, another, context)
        except (HoleFault, KindFault):
            self.come_back(kept)
            return False
        finally:
            self.nesting -= 1
        return True

    def pairs_of_parts(self, one, other, context):
        """Return rows of parts that are to be made the same of two terms that cannot be reckoned at their heads."""
        if one[0] in ("pi", "lam") and one[0] == other[0]:
            return [(one[2], other[2], context), (one[3], other[3], ((one[1], one[2], None),) + context)]
        head, arguments = spine(one)
        opposite, others = spine(other)
        if head[0] == "meta" and opposite[0] == "meta" and head[1] == opposite[1]:
            arguments = [*head[2], *arguments]
            others = [*opposite[2], *others]
        elif head != opposite:
            self.refuse(one, other)
        if len(arguments) != len(others) or head[0] in ("pi", "lam", "sort"):
            self.refuse(one, other)
        return [(argument, another, context) for argument, another in zip(arguments, others)]

    def refuse(self, one, other):
        """Raise HoleFault if a hole may be what keeps two terms apart, KindFault if none can be."""
        for term in (one, other):
            head = spine(term)[0]
            if head[0] == "meta" or (head[0] == "rec" and has_holes(term)):
                raise HoleFault("what a hole stands for is not found")
        raise KindFault("a term has another kind than it must")

    def has_known_values(self, context):
        """Return True if no value of a context's variables has holes."""
        return self.is_without_holes(PROP, tuple([(name, PROP, value) for name, _, value in context]))

    def values_of(self, context):
        """Return the values of a context's variables as values.py tells them, the nearest first."""
        row = ()
        for _, _, value in reversed(context):
            row = (free(len(row)) if value is None else delayed(self.filled_in(value), row),) + row
        return row

    def are_equal(self, one, other, context):
        """Return True if two terms without holes are the same when they are reckoned."""
        row = self.values_of(context)
        return Comparer(self.signature, MOST_STEPS).equal(delayed(one, row), delayed(other, row), len(context))

    def finished(self, term):
        """Return a term without holes; raise HoleFault if one is not solved."""
        found = self.need_size(self.filled_in(term))
        if has_holes(found):
            raise HoleFault("what a hole stands for is not found")
        return found


def has_holes(term):
    """Return True if a term has holes."""
    return holes_of(term) != []


def deepest(term, depth=0):
    """Return how many binders must stand around a term without holes."""
    return lowest_free(term, depth)


def lifted_meta(term, many, start=0):
    """Return a term, perhaps with holes, whose variables from a number on are greater by so many."""
    return lifted(term, many, start)


def put_in_meta(term, value, start=0):
    """Return a term, perhaps with holes, with a value in the place of a variable; greater variables are less by one."""
    return put_in(term, value, start)


def placed(term, values, start=0):
    """Return a term with values in the places of its free variables: the first value for the nearest variable."""
    return filled(term, values, start)


def renamed(term, places, depth, hole):
    """Return a term with its free variables renamed, None if one has no new name, or the hole is in it."""
    return moved(term, places, depth, hole)


def same_meta(one, other):
    """Return True if two terms, perhaps with holes, are the same but for binders' names."""
    return same(one, other)


def count_implicit(rows):
    """Return how many rows at the beginning are implicit; raise TextError if a later one is."""
    many = 0
    while many < len(rows) and rows[many][2]:
        many += 1
    if any(row[2] for row in rows[many:]):
        raise TextError("implicit arguments stand first")
    return many
