"""Running: terms as programs without kinds, which are run and give data.

What a term gives is something Made, a Closed function, or None for a kind. Nothing is asked for before it is needed:
arguments and variables' values are Later.
"""

from kernelstack.errors import KernelError, KindFault, WorkFault
from kernelstack.values import hypotheses_of, needed_by, value_in

MOST_RUNS = 50000
MOST_WITHIN = 120


class Later:
    """A term and the values of its variables, or its value once it was asked for."""

    def __init__(self, term, row):
        self.term = term
        self.around = row
        self.known = None
        # A kind gives None, too.
        self.is_known = False


class Made:
    """A constructor's or a recursor's name, its arguments so far, and how many it takes; recursors have a place, too.

    A recursor's name is that of its data, and its place that of the argument for which it asks.
    """

    def __init__(self, word, name, arguments, many):
        self.word = word
        self.name = name
        self.arguments = arguments
        self.many = many
        self.asks_at = many - 1 if word == "rec" else None

    def with_more(self, argument):
        """Return the same with one more argument."""
        return Made(self.word, self.name, self.arguments + (argument,), self.many)

    def is_whole(self):
        """Return True if all arguments are there."""
        return len(self.arguments) == self.many


class Closed:
    """A function's body and the values of the variables around it."""

    def __init__(self, body, row):
        self.body = body
        self.around = row


class Runner:
    """A signature, how many steps may be made, how many were, and how deep within each other."""

    def __init__(self, signature, most=MOST_RUNS):
        self.signature = signature
        self.most = most
        self.steps = 0
        self.nested = 0
        # Definitions' values, each of which is reckoned once, too.
        self.definitions = {}
        # What became known since something was asked to be shown.
        self.learnt = []

    def count(self):
        """Count a step; raise WorkFault for too many."""
        self.steps += 1
        if self.steps > self.most:
            self.steps -= 1
            raise WorkFault("a program takes too many steps")

    def run(self, term):
        """Return what a term without free variables gives, shown; raise WorkFault, or KindFault for an axiom."""
        return self.shown(Later(term, ()))

    def shown(self, value):
        """Return (constructor's name, shown fields ..) of something made, "function" for a function, None for kinds."""
        steps = self.steps
        try:
            return self.told(value)
        except KernelError:
            self.steps = steps
            for later in self.learnt:
                later.known = None
                later.is_known = False
            raise
        finally:
            self.learnt = []

    def told(self, value):
        """Return what is shown of a value; what was counted stays counted if it is refused."""
        nested = self.nested
        self.nested = nested + 1
        try:
            self.count()
            if self.nested > MOST_WITHIN:
                raise WorkFault("values stand too deep within each other")
            if isinstance(value, Later):
                value = self.asked(value)
            if value is None:
                return None
            if isinstance(value, Closed) or value.word == "rec" or not value.is_whole():
                return "function"
            data, _ = self.signature.made_by(value.name)
            fields = [self.told(field) for field in value.arguments[len(data.params):]]
            return tuple([value.name] + fields)
        finally:
            self.nested = nested

    def asked(self, one):
        """Return the value of something later, and keep it."""
        # What asks for other values waits here: what it is, what waits for its value, and the recursor that asks for
        # its last argument, if one does.
        frames = []
        waiting = []
        asking = None
        while True:
            if isinstance(one, Later) and not one.is_known:
                if self.nested + len(frames) > MOST_WITHIN:
                    raise WorkFault("values stand too deep within each other")
                frames.append((one, waiting, asking))
                waiting = []
                asking = None
                one = self.head_of(one.term, one.around, waiting)
                continue
            value = one.known if isinstance(one, Later) else one
            if asking is not None:
                one = self.case_of(asking, value, waiting)
                asking = None
            elif is_recursion(value):
                self.count()
                asking = value
                one = value.arguments[value.asks_at]
            elif waiting and value is not None:
                one = self.applied(value, waiting)
            elif frames == []:
                return value
            else:
                one, waiting, asking = frames.pop()
                self.keep(one, value)

    def keep(self, later, value):
        """Keep the value of something later."""
        later.known = value
        later.is_known = True
        self.learnt.append(later)

    def head_of(self, term, row, waiting):
        """Return what stands at the head of a term; what that is applied to waits, the first argument last."""
        while True:
            self.count()
            if term[0] == "app":
                waiting.append(later_value(term[2], row))
                term = term[1]
            elif term[0] == "let":
                row = (later_value(term[3], row),) + row
                term = term[4]
            elif term[0] == "lam" and waiting:
                row = (waiting.pop(),) + row
                term = term[3]
            else:
                return self.head_value(term, row)

    def head_value(self, term, row):
        """Return what a term gives that is neither applied nor defines a variable."""
        if term[0] in ("sort", "pi"):
            return None
        if term[0] == "lam":
            return Closed(term[3], row)
        if term[0] == "var":
            return value_in(row, term[1])
        if term[0] == "rec":
            return Made("rec", term[1], (), needed_by(self.signature.data_named(term[1])))
        return self.named_value(term[1])

    def named_value(self, name):
        """Return what a name gives; raise KindFault for an axiom, NameFault for an unknown name."""
        owner = self.signature.made_by(name)
        if owner is not None:
            data, number = owner
            return Made("made", name, (), len(data.params) + len(data.constructors[number][1]))
        if name in self.signature.data:
            return None
        body = self.signature.value_of(name)
        if body is None:
            self.signature.kind_of(name)
            raise KindFault(f"{name} is an axiom, which gives nothing")
        if name not in self.definitions:
            self.definitions[name] = Later(body, ())
        return self.definitions[name]

    def applied(self, value, waiting):
        """Return a function, or something made, applied to the first of what waits."""
        if isinstance(value, Closed):
            return self.head_of(value.body, (waiting.pop(),) + value.around, waiting)
        if value.is_whole():
            raise KindFault("what is no function is applied")
        self.count()
        return value.with_more(waiting.pop())

    def case_of(self, asking, made, waiting):
        """Return the case of a recursor for what its last argument gives; the fields, and values below, wait for it."""
        data = self.signature.data_named(asking.name)
        if not isinstance(made, Made) or made.word == "rec" or not made.is_whole():
            raise KindFault("a recursor is applied to what no constructor made")
        owner, number = self.signature.made_by(made.name)
        if owner.name != data.name:
            raise KindFault("a recursor is applied to other data")
        fields = made.arguments[len(data.params):]
        given = list(fields)
        for term, row in hypotheses_of(data, 0, number, asking.arguments, fields):
            given.append(Later(term, row))
        waiting.extend(list(reversed(given)))
        return asking.arguments[len(data.params) + 1 + number]


def is_recursion(value):
    """Return True for a recursor with all its arguments."""
    return isinstance(value, Made) and value.word == "rec" and value.is_whole()


def later_value(term, row):
    """Return what stands for a term's value until it is asked for: a variable's value is asked for once, too."""
    return value_in(row, term[1]) if term[0] == "var" else Later(term, row)
