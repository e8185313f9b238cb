"""Running: terms as programs without kinds, which are run and give data.

What a term gives is something Made, a Closed function, or None for a kind. Nothing is asked for before it is needed:
arguments and variables' values are Later.
"""

from kernelstack.errors import KernelError, KindFault, WorkFault
from kernelstack.values import hypotheses_of, needed_by, value_in

MOST_RUNS = 50000
MOST_WITHIN = 120


class Later:
    """A term and the values of its variables, or its value once it was asked for."""

    def __init__(self, term, row):
        self.term = term
        self.around = row
        self.known = None
        # A kind gives None, too.
        self.is_known = False


class Made:
    """A constructor's or a recursor's name, its arguments so far, and how many it takes; recursors have a place, too.

    A recursor's name is that of its data, and its place that of the argument for which it asks.
    """

    def __init__(self, word, name, arguments, many):
        self.word = word
        self.name = name
        self.arguments = arguments
        self.many = many
        self.asks_at = many - 1 if word == "rec" else None

    def with_more(self, argument):
        """Return the same with one more argument."""
        return Made(self.word, self.name, self.arguments + (argument,), self.many)

    def is_whole(self):
        """Return True if all arguments are there."""
        return len(self.arguments) == self.many


class Closed:
    """A function's body and the values of the variables around it."""

    def __init__(self, body, row):
        self.body = body
        self.around = row


class Runner:
    """A signature, how many steps may be made, how many were, and how deep within each other."""

    def __init__(self, signature, most=MOST_RUNS):
        self.signature = signature
        self.most = most
        self.steps = 0
        self.nested = 0
        # Definitions' values, each of which is reckoned once, too.
        self.definitions = {}
        # What became known since something was asked to be shown.
        self.learnt = []

    def count(self):
        """Count a step; raise WorkFault for too many."""
        self.steps += 1
        if self.steps > self.most:
            self.steps -= 1
            raise WorkFault("a program takes too many steps")

    def run(self, term):
        """Return what a term without free variables gives, shown; raise WorkFault, or KindFault for an axiom."""
        return self.shown(Later(term, ()))

    def shown(self, value):
        """Return (constructor's name, shown fields ..) of something made, "function" for a function, None for kinds."""
        steps = self.steps
        try:
            return self.told(value)
        except KernelError:
            self.steps = steps
            for later in self.learnt:
                later.known = None
                later.is_known = False
            raise
        finally:
            self.learnt = []

    def told(self, value):
        """Return what is shown of a value; what was counted stays counted if it is refused."""
        nested = self.nested
        self.nested = nested + 1
        try:
            self.count()
            if self.nested > MOST_WITHIN:
                raise WorkFault("values stand too deep within each other")
            if isinstance(value, Later):
                value = self.result_of(value)
            if value is None:
                return None
            if isinstance(value, Closed) or value.word == "rec" or not value.is_whole():
                return "function"
            data, _ = self.signature.made_by(value.name)
            fields = [self.told(field) for field in value.arguments[len(data.params):]]
            return tuple([value.name] + fields)
        finally:
            self.nested = nested

    def asked(self, later):
        """Return the value of something later, which stands within what asks for it."""
        if later.is_known:
            return later.known
        nested = self.nested
        self.nested = nested + 1
        try:
            if self.nested > MOST_WITHIN:
                raise WorkFault("values stand too deep within each other")
            return self.result_of(later)
        finally:
            self.nested = nested

    def result_of(self, later):
        """Return the value of something later, and keep it."""
        if not later.is_known:
            later.known = self.value(later.term, later.around)
            later.is_known = True
            self.learnt.append(later)
        return later.known

    def value(self, term, row):
        """Return what a term gives whose variables have values, the nearest binder's first."""
        # What the term is applied to waits here, the first argument last.
        waiting = []
        while term is not None:
            self.count()
            if term[0] == "app":
                waiting.append(later_value(term[2], row))
                term = term[1]
            elif term[0] == "let":
                row = (later_value(term[3], row),) + row
                term = term[4]
            elif term[0] == "lam" and waiting:
                row = (waiting.pop(),) + row
                term = term[3]
            else:
                value = self.applied(self.head_value(term, row), waiting)
                term = None
                if isinstance(value, Closed) and waiting:
                    term = value.body
                    row = (waiting.pop(),) + value.around
        return value

    def head_value(self, term, row):
        """Return what a term gives that is neither applied nor defines a variable."""
        if term[0] in ("sort", "pi"):
            return None
        if term[0] == "lam":
            return Closed(term[3], row)
        if term[0] == "var":
            return self.asked(value_in(row, term[1]))
        if term[0] == "rec":
            return Made("rec", term[1], (), needed_by(self.signature.data_named(term[1])))
        return self.named_value(term[1])

    def named_value(self, name):
        """Return what a name gives; raise KindFault for an axiom, NameFault for an unknown name."""
        owner = self.signature.made_by(name)
        if owner is not None:
            data, number = owner
            return Made("made", name, (), len(data.params) + len(data.constructors[number][1]))
        if name in self.signature.data:
            return None
        body = self.signature.value_of(name)
        if body is None:
            self.signature.kind_of(name)
            raise KindFault(f"{name} is an axiom, which gives nothing")
        if name not in self.definitions:
            self.definitions[name] = Later(body, ())
        return self.asked(self.definitions[name])

    def applied(self, value, waiting):
        """Return something made of what waits, as far as it takes it; a function is left with what waits for it."""
        while isinstance(value, Made):
            if value.word == "rec" and value.is_whole():
                value = self.case_of(value, waiting)
            elif waiting == []:
                return value
            elif value.is_whole():
                raise KindFault("what is no function is applied")
            else:
                self.count()
                value = value.with_more(waiting.pop())
        return value

    def case_of(self, value, waiting):
        """Return the case of a recursor for what its last argument gives; the fields, and values below, wait for it."""
        self.count()
        data = self.signature.data_named(value.name)
        made = self.asked(value.arguments[value.asks_at])
        if not isinstance(made, Made) or made.word == "rec" or not made.is_whole():
            raise KindFault("a recursor is applied to what no constructor made")
        owner, number = self.signature.made_by(made.name)
        if owner.name != data.name:
            raise KindFault("a recursor is applied to other data")
        fields = made.arguments[len(data.params):]
        given = list(fields)
        for term, row in hypotheses_of(data, 0, number, value.arguments, fields):
            given.append(Later(term, row))
        waiting.extend(list(reversed(given)))
        return self.asked(value.arguments[len(data.params) + 1 + number])


def later_value(term, row):
    """Return what stands for a term's value until it is asked for: a variable's value is asked for once, too."""
    return value_in(row, term[1]) if term[0] == "var" else Later(term, row)
