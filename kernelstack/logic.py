"""Logic: statements made of implications, and, or and false, decided by search, with proofs as terms.

Formulas are ("atom", term), ("imp", a, b), ("and", a, b), ("or", a, b) and ("false",). While the search goes on,
constants whose names begin with "#" stand for variables.

The search is for sequents without contraction: an implication among the hypotheses is replaced by simpler ones, by what
its left side is, so that every way comes to an end.
"""

from kernelstack.errors import StepFault
from kernelstack.terms import apply, arrow, levels, lifted, parts, put_in, same, size, spine, uses_var, with_parts

CONNECTIVES = ("and", "or", "false")
MOST_NODES = 200000
MOST_PLAIN = 30
# Greater proofs are no terms for the kernel; looking into them by recursion must come to an end before Python does.
MOST_LEVELS = 300
MOST_WITHIN = 100

PROP = ("sort", 0)
# The level-0 data without indices that are connectives: kinds of parameters, and constructors with their fields' kinds.
FORMS = {
    "and": ((("sort", 0), ("sort", 0)), (("both", (("var", 1), ("var", 1))),)),
    "or": ((("sort", 0), ("sort", 0)), (("inl", (("var", 1),)), ("inr", (("var", 0),)))),
    "false": ((), ()),
}


def connectives(signature):
    """Return which of "and", "or" and "false" are data with just the constructors both, inl and inr, and none."""
    return tuple([name for name in CONNECTIVES if name in signature.data and is_connective(signature.data[name])])


def is_connective(data):
    """Return True if data named like a connective is one."""
    params = tuple([kind for _, kind in data.params])
    constructors = tuple([(row[0], tuple([kind for _, kind in row[1]])) for row in data.constructors])
    return data.level == 0 and data.indices == () and (params, constructors) == FORMS[data.name]


def formula(term, known=CONNECTIVES):
    """Return the formula of a statement; products that are no implications, and unknown connectives, are atoms."""
    if term[0] == "pi" and not uses_var(term[3], 0):
        return ("imp", formula(term[2], known), formula(put_in(term[3], PROP), known))
    head, arguments = spine(term)
    if head[0] != "const" or head[1] not in known or len(arguments) != len(FORMS[head[1]][0]):
        return ("atom", term)
    if arguments == []:
        return (head[1],)
    return (head[1], formula(arguments[0], known), formula(arguments[1], known))


def statement(one):
    """Return the statement of a formula."""
    if one[0] == "atom":
        return one[1]
    if one[0] == "imp":
        return arrow(statement(one[1]), statement(one[2]))
    if one[0] == "false":
        return ("const", "false")
    return apply(("const", one[0]), [statement(one[1]), statement(one[2])])


def alike(one, other):
    """Return True if two formulas are the same."""
    if one[0] != other[0]:
        return False
    if one[0] == "atom":
        return same(one[1], other[1])
    if one[0] == "false":
        return True
    return alike(one[1], other[1]) and alike(one[2], other[2])


def closed(term, name, depth):
    """Return a term with a variable in the places of a constant; other variables make room for its binder."""
    if term == ("const", name):
        return ("var", depth)
    if term[0] == "var":
        return ("var", term[1] + 1) if term[1] >= depth else term
    fresh = []
    for part, under in parts(term):
        fresh.append(closed(part, name, depth + under))
    return with_parts(term, fresh)


def function(name, kind, body):
    """Return the function that binds a constant that stands for a variable."""
    return ("lam", name.replace("#", "x"), kind, closed(body, name, 0))


def made(label, one, values):
    """Return a constructor of a conjunction or disjunction applied to its halves and values."""
    return apply(("const", label), [statement(one[1]), statement(one[2]), *values])


def rec(name, params, goal, cases, kind, proof):
    """Return a recursor into a formula applied to parameters, cases and a proof."""
    into = ("lam", "_", kind, lifted(statement(goal), 1))
    return apply(("rec", name, 0), [*params, into, *cases, proof])


class Sequent:
    """Hypotheses that were looked at and those that were not, with their proofs, a goal, and what binds the proof.

    Hypotheses and the goal are numbers of formulas. What binds is (word, ..) rows, the outermost first.
    """

    def __init__(self, known, waiting, goal):
        self.known = known
        self.waiting = waiting
        self.goal = goal
        self.around = []

    def with_more(self, waiting, goal):
        """Return a sequent with the same hypotheses and more, and a goal."""
        return Sequent(dict(self.known), list(self.waiting) + waiting, goal)


class Search:
    """How many constants were made, and how many sequents were looked at."""

    def __init__(self):
        self.constants = 0
        self.nodes = 0
        self.depth = 0
        self.formulas = []
        self.numbers = {}
        self.failed = {}

    def constant(self):
        """Return the name of a fresh constant that stands for a variable."""
        self.constants += 1
        return f"#{self.constants}"

    def prove(self, hyps, goal):
        """Return a proof of a formula from (formula, proof) rows, None if there is none; raise StepFault."""
        waiting = [(self.numbered(one), proof) for one, proof in reversed(hyps)]
        return self.proved(Sequent({}, waiting, self.numbered(goal)))

    def numbered(self, one):
        """Return the number of a formula: the same one for formulas that are alike."""
        if one[0] == "atom":
            return self.numbered_atom(one)
        key = (one[0],)
        for half in one[1:]:
            key = key + (self.numbered(half),)
        if key not in self.numbers:
            self.numbers[key] = len(self.formulas)
            self.formulas.append(one)
        return self.numbers[key]

    def numbered_atom(self, one):
        """Return the number of an atom."""
        for number, other in enumerate(self.formulas):
            if other[0] == "atom" and (other == one or alike(other, one)):
                return number
        self.formulas.append(one)
        return len(self.formulas) - 1

    def proved(self, sequent):
        """Return a proof of a sequent's goal, None if there is none."""
        self.nodes += 1
        if self.nodes > MOST_NODES or self.depth > MOST_WITHIN:
            raise StepFault("the search looks at too many sequents")
        ids = [*sequent.known, *[number for number, _ in sequent.waiting]]
        key = (tuple(sorted(set(ids))), sequent.goal)
        if key in self.failed:
            return None
        self.depth += 1
        found = self.searched(sequent)
        self.depth -= 1
        if found is None:
            self.failed[key] = True
            return None
        for row in reversed(sequent.around):
            if levels(found) > MOST_LEVELS:
                raise StepFault("a proof is too deep")
            found = self.within(row, found)
        return found

    def searched(self, sequent):
        """Return a proof of the goal within all that binds it, None if there is none."""
        while True:
            for number, proof in list(sequent.known.items()) + sequent.waiting:
                if number == sequent.goal:
                    return proof
            if sequent.waiting:
                number, proof = sequent.waiting.pop()
                if number in sequent.known:
                    continue
                one = self.formulas[number]
                if one[0] == "false":
                    return rec("false", [], self.formulas[sequent.goal], [], statement(one), proof)
                if one[0] == "or":
                    return self.by_halves(sequent, one, proof)
                self.take_in(sequent, number, one, proof)
            elif self.formulas[sequent.goal][0] == "imp":
                self.take_left(sequent)
            else:
                return self.chosen(sequent)

    def within(self, row, found):
        """Return a proof within what binds it."""
        if row[0] == "fun":
            return function(row[1], row[2], found)
        if row[0] == "cut":
            return ("app", function(row[1], row[2], found), row[3])
        _, one, names, goal, proof = row
        halves = [statement(one[1]), statement(one[2])]
        case = function(names[0], halves[0], function(names[1], halves[1], found))
        return rec("and", halves, goal, [case], statement(one), proof)

    def take_left(self, sequent):
        """Take the left side of a goal in as a hypothesis."""
        goal = self.formulas[sequent.goal]
        name = self.constant()
        sequent.around.append(("fun", name, statement(goal[1])))
        sequent.waiting.append((self.numbered(goal[1]), ("const", name)))
        sequent.goal = self.numbered(goal[2])

    def take_in(self, sequent, number, one, proof):
        """Look at a hypothesis that leads to one sequent alone."""
        if one[0] == "and":
            names = (self.constant(), self.constant())
            sequent.around.append(("and", one, names, self.formulas[sequent.goal], proof))
            for half, name in zip(one[1:], names):
                sequent.waiting.append((self.numbered(half), ("const", name)))
        elif one[0] == "atom":
            sequent.known[number] = proof
            self.wake(sequent, number, proof)
        else:
            self.take_implication(sequent, number, one, proof)

    def wake(self, sequent, atom, proof):
        """Carry out all implications whose left side is an atom that became known."""
        for number in list(sequent.known):
            one = self.formulas[number]
            if one[0] == "imp" and self.numbered(one[1]) == atom:
                value = ("app", sequent.known.pop(number), proof)
                self.put(sequent, one[2], value)

    def put(self, sequent, one, proof):
        """Take a formula in as a hypothesis; a great proof is bound by a name, so that it stands there once."""
        if size(proof) <= MOST_PLAIN:
            sequent.waiting.append((self.numbered(one), proof))
            return
        name = self.constant()
        sequent.around.append(("cut", name, statement(one), proof))
        sequent.waiting.append((self.numbered(one), ("const", name)))

    def take_implication(self, sequent, number, one, proof):
        """Look at an implication among the hypotheses, by what its left side is."""
        left = one[1]
        if left[0] == "atom":
            place = self.numbered(left)
            if place in sequent.known:
                self.put(sequent, one[2], ("app", proof, sequent.known[place]))
            else:
                sequent.known[number] = proof
        elif left[0] == "imp":
            sequent.known[number] = proof
        elif left[0] == "and":
            first, second = self.constant(), self.constant()
            value = made("both", left, [("const", first), ("const", second)])
            inner = function(second, statement(left[2]), ("app", proof, value))
            simple = ("imp", left[1], ("imp", left[2], one[2]))
            self.put(sequent, simple, function(first, statement(left[1]), inner))
        elif left[0] == "or":
            for label, half in (("inl", left[1]), ("inr", left[2])):
                name = self.constant()
                value = ("app", proof, made(label, left, [("const", name)]))
                self.put(sequent, ("imp", half, one[2]), function(name, statement(half), value))

    def by_halves(self, sequent, one, proof):
        """Return a proof by the cases of a disjunction among the hypotheses."""
        cases = []
        for half in one[1:]:
            name = self.constant()
            fresh = [(self.numbered(half), ("const", name))]
            found = self.proved(sequent.with_more(fresh, sequent.goal))
            if found is None:
                return None
            cases.append(function(name, statement(half), found))
        halves = [statement(one[1]), statement(one[2])]
        return rec("or", halves, self.formulas[sequent.goal], cases, statement(one), proof)

    def chosen(self, sequent):
        """Return a proof where all that leads to one sequent alone was done."""
        goal = self.formulas[sequent.goal]
        if goal[0] == "and":
            values = []
            for half in goal[1:]:
                found = self.proved(sequent.with_more([], self.numbered(half)))
                if found is None:
                    return None
                values.append(found)
            return made("both", goal, values)
        if goal[0] == "or":
            for label, half in (("inl", goal[1]), ("inr", goal[2])):
                found = self.proved(sequent.with_more([], self.numbered(half)))
                if found is not None:
                    return made(label, goal, [found])
        return self.by_implications(sequent)

    def by_implications(self, sequent):
        """Return a proof by one of the hypotheses that are implications of implications."""
        for number in list(sequent.known):
            one = self.formulas[number]
            if one[0] != "imp" or one[1][0] != "imp":
                continue
            proof = sequent.known[number]
            name = self.constant()
            left, right = one[1][1], one[1][2]
            # A proof of the right side alone is one of the inner implication.
            simple = ("app", proof, ("lam", "_", statement(left), ("const", name)))
            fresh = [(self.numbered(("imp", right, one[2])), function(name, statement(right), simple))]
            rest = sequent.with_more([], sequent.goal)
            del rest.known[number]
            found = self.proved(rest.with_more(fresh, self.numbered(one[1])))
            if found is not None:
                self.put(rest, one[2], ("app", proof, found))
                return self.proved(rest)
        return None


def decide(kind, hyps=(), known=CONNECTIVES):
    """Return a proof of a statement from (statement, proof) rows, None if search shows that there is none.

    Products at the beginning over sorts, and those whose variable is used, are taken in first. Raise StepFault for too
    many tries.
    """
    search = Search()
    given = [(formula(one, known), proof) for one, proof in hyps]
    rows = []
    while kind[0] == "pi" and (kind[2][0] == "sort" or uses_var(kind[3], 0)):
        name = search.constant()
        rows.append((name, kind[1], kind[2]))
        if kind[2][0] != "sort":
            given.append((formula(kind[2], known), ("const", name)))
        kind = put_in(kind[3], ("const", name))
    found = search.prove(given, formula(kind, known))
    if found is None:
        return None
    for name, label, own in reversed(rows):
        found = ("lam", label, own, closed(found, name, 0))
    return found
