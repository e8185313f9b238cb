"""Logic: statements made of implications, and, or and false, decided by search, with proofs as terms.

Formulas are ("atom", term), ("imp", a, b), ("and", a, b), ("or", a, b) and ("false",). While the search goes on,
constants whose names begin with "#" stand for variables.

The search is for sequents without contraction: an implication among the hypotheses is replaced by simpler ones, by what
its left side is, so that every way comes to an end.
"""

from kernelstack.errors import StepFault
from kernelstack.sequents import Attempt, Formulas, Sequent, bind, is_small, statement_of, tied
from kernelstack.shapes import Shape
from kernelstack.terms import apply, lifted, nodes, put_in_all, rebuilt, same, spine

CONNECTIVES = ("and", "or", "false")
MOST_NODES = 200000
MOST_PLAIN = 30

# The level-0 data without indices that are connectives: kinds of parameters, and constructors with their fields' kinds.
FORMS = {
    "and": ((("sort", 0), ("sort", 0)), (("both", (("var", 1), ("var", 1))),)),
    "or": ((("sort", 0), ("sort", 0)), (("inl", (("var", 1),)), ("inr", (("var", 0),)))),
    "false": ((), ()),
}


def connectives(signature):
    """Return which of "and", "or" and "false" are data with just the constructors both, inl and inr, and none."""
    return tuple([name for name in CONNECTIVES if name in signature.data and is_connective(signature.data[name])])


def is_connective(data):
    """Return True if data named like a connective is one."""
    params = tuple([kind for _, kind in data.params])
    constructors = tuple([(row[0], tuple([kind for _, kind in row[1]])) for row in data.constructors])
    return data.level == 0 and data.indices == () and (params, constructors) == FORMS[data.name]


def formula(term, known=CONNECTIVES):
    """Return the formula of a statement; products that are no implications, and unknown connectives, are atoms."""
    shape = Shape(term)
    rows = []
    # Parts that are still to be looked at: where they begin, and how many binders around are left out.
    waiting = [(term, 0, 0)]
    while waiting:
        one, place, left_out = waiting.pop()
        head, arguments = spine(one)
        if one[0] == "pi" and place not in shape.used:
            first, second = shape.places_of(place, 2)
            rows.append(("imp",))
            waiting.append((one[3], second, left_out + 1))
            waiting.append((one[2], first, left_out))
        elif head[0] != "const" or head[1] not in known or len(arguments) != len(FORMS[head[1]][0]):
            rows.append(("atom", lifted(one, -left_out)))
        else:
            rows.append((head[1],))
            if arguments != []:
                inner, second = shape.places_of(place, 2)
                waiting.append((arguments[1], second, left_out))
                waiting.append((arguments[0], shape.places_of(inner, 2)[1], left_out))
    return joined_all(rows)


def joined_all(rows):
    """Return the formula of all its parts, outer ones first: atoms, and words of those that have halves."""
    done = []
    for row in reversed(rows):
        if row[0] in ("atom", "false"):
            done.append(row)
        else:
            done.append((row[0], done.pop(), done.pop()))
    return done[0]


def statement(one):
    """Return the statement of a formula."""
    return statement_of(one)


def alike(one, other):
    """Return True if two formulas are the same."""
    waiting = [(one, other)]
    while waiting:
        one, other = waiting.pop()
        if one[0] != other[0] or (one[0] == "atom" and not same(one[1], other[1])):
            return False
        if one[0] not in ("atom", "false"):
            waiting.append((one[2], other[2]))
            waiting.append((one[1], other[1]))
    return True


def closed(term, name, depth):
    """Return a term with a variable in the places of a constant; other variables make room for its binder."""
    done = []
    for node, around in reversed(nodes(term)):
        if node[0] == "const" and node[1] == name:
            done.append(("var", depth + around))
        elif node[0] == "var" and node[1] >= depth + around:
            done.append(("var", node[1] + 1))
        else:
            done.append(rebuilt(node, done))
    return done[0]


def function(name, kind, body):
    """Return the function that binds a constant that stands for a variable."""
    return ("lam", name.replace("#", "x"), kind, closed(body, name, 0))


def made(label, one, values):
    """Return a constructor of a conjunction or disjunction applied to its halves and values."""
    return apply(("const", label), [statement(one[1]), statement(one[2]), *values])


def rec(name, params, goal, cases, kind, proof):
    """Return a recursor into a formula applied to parameters, cases and a proof."""
    return into(name, params, lifted(statement(goal), 1), cases, kind, proof)


def into(name, params, goal, cases, kind, proof):
    """Return a recursor into a statement, which stands under a binder, applied to parameters, cases and a proof."""
    return apply(("rec", name, 0), [*params, ("lam", "_", kind, goal), *cases, proof])


class Search:
    """How many constants were made, and how many sequents were looked at."""

    def __init__(self):
        self.constants = 0
        self.nodes = 0
        self.formulas = Formulas()
        self.failed = {}

    def constant(self):
        """Return the name of a fresh constant that stands for a variable."""
        self.constants += 1
        return f"#{self.constants}"

    def prove(self, hyps, goal):
        """Return a proof of a formula from (formula, proof) rows, None if there is none; raise StepFault."""
        sequents = self.nodes
        try:
            found = self.proof_of(hyps, goal)
        except StepFault:
            self.nodes = sequents
            raise
        return None if found is None else tied(found, self.formulas)

    def proof_of(self, hyps, goal):
        """Return a proof of a formula in which constants are bound by their names, None if there is none."""
        waiting = [(self.formulas.number(one), proof) for one, proof in reversed(hyps)]
        # Sequents wait for others in a list, since they may stand within each other by the thousand.
        attempts = [self.begun(Sequent({}, waiting, self.formulas.number(goal), {}))]
        while True:
            wanted = self.wanted_by(attempts[-1])
            if wanted is not None:
                attempts.append(self.begun(wanted))
                continue
            found = self.ended(attempts.pop())
            if attempts == []:
                return found
            attempts[-1].take(found)

    def halves_told(self, number):
        """Return the statements of the halves of a formula's number."""
        return [("told", half) for half in self.formulas.halves[number]]

    def begun(self, sequent):
        """Return an attempt to prove a sequent, of which all was done that leads to one sequent alone."""
        self.nodes += 1
        if self.nodes > MOST_NODES:
            raise StepFault("the search looks at too many sequents")
        attempt = Attempt(sequent)
        if attempt.key not in self.failed:
            self.look(attempt)
        return attempt

    def ended(self, attempt):
        """Return the proof of an attempt's sequent within all that binds it, None if there is none."""
        found = attempt.found
        if found is None:
            self.failed[attempt.key] = True
            return None
        for row in reversed(attempt.sequent.around):
            found = self.within(row, found)
        return found

    def wanted_by(self, attempt):
        """Return the next sequent that an attempt needs, None if it has a proof or no way is left."""
        while attempt.found is None:
            if attempt.way is None:
                if attempt.ways == []:
                    return None
                self.begin(attempt, attempt.ways.pop())
            if len(attempt.done) < len(attempt.sequents):
                return attempt.sequents[len(attempt.done)]
            self.finish(attempt)
        return None

    def look(self, attempt):
        """Do all that leads to one sequent alone, and keep the proof, or the ways that are left, the first one last."""
        sequent = attempt.sequent
        while True:
            attempt.found = sequent.known_goal()
            if attempt.found is not None:
                return
            if sequent.waiting:
                number, proof = sequent.waiting.pop()
                if number in sequent.known:
                    continue
                one = self.formulas.rows[number]
                if one[0] == "false":
                    attempt.found = into("false", [], ("told", sequent.goal), [], ("told", number), proof)
                    return
                if one[0] == "or":
                    sequent.apart[number] = proof
                else:
                    self.take_in(sequent, number, one, proof)
            elif self.formulas.rows[sequent.goal][0] == "imp":
                self.take_left(sequent)
            else:
                attempt.ways = self.ways_of(sequent)
                return

    def ways_of(self, sequent):
        """Return the ways to prove a sequent of which all was done that leads to one sequent alone, the first last."""
        for number, proof in list(sequent.apart.items()):
            del sequent.apart[number]
            # A disjunction tells nothing new where one of its halves is known.
            if not any(half in sequent.known for half in self.formulas.halves[number]):
                return [("cases", number, proof)]
        word = self.formulas.rows[sequent.goal][0]
        if word == "and":
            return [("both",)]
        ways = [("inl",), ("inr",)] if word == "or" else []
        for number in sequent.known:
            if self.is_nested(number):
                ways.append(("imp", number))
        ways.reverse()
        return ways

    def is_nested(self, number):
        """Return True for the number of an implication of an implication."""
        one = self.formulas.rows[number]
        return one[0] == "imp" and one[1][0] == "imp"

    def begin(self, attempt, way):
        """Go a way: find the sequents to which it leads."""
        sequent = attempt.sequent
        halves = self.formulas.halves[sequent.goal]
        if way[0] == "cases":
            names = [self.constant(), self.constant()]
            sequents = []
            for half, name in zip(self.formulas.halves[way[1]], names):
                sequents.append(sequent.with_more([(half, ("const", name))], sequent.goal))
            attempt.begin(way, sequents, names)
        elif way[0] == "both":
            attempt.begin(way, [sequent.with_more([], half) for half in halves], [])
        elif way[0] in ("inl", "inr"):
            attempt.begin(way, [sequent.with_more([], halves[0 if way[0] == "inl" else 1])], [])
        else:
            self.begin_implication(attempt, way)

    def begin_implication(self, attempt, way):
        """Go the way of a hypothesis that is an implication of an implication."""
        sequent = attempt.sequent
        number = way[1]
        inner, second = self.formulas.halves[number]
        left, right = self.formulas.halves[inner]
        name = self.constant()
        # A proof of the right side alone is one of the inner implication.
        simple = ("app", sequent.known[number], ("lam", "_", ("told", left), ("const", name)))
        fresh = [(self.formulas.joined("imp", right, second), bind(name, ("told", right), simple))]
        rest = sequent.with_more([], sequent.goal)
        del rest.known[number]
        attempt.begin(way, [rest.with_more(fresh, inner)], [])

    def finish(self, attempt):
        """Keep the proof that the proofs of a way's sequents give, or go on with what they lead to."""
        way = attempt.way
        goal = attempt.sequent.goal
        if way[0] == "last":
            attempt.found = attempt.done[0]
        elif way[0] == "imp":
            rest = attempt.sequent.with_more([], goal)
            proof = rest.known.pop(way[1])
            self.put(rest, self.formulas.halves[way[1]][1], ("app", proof, attempt.done[0]))
            # Nothing else is tried: the sequent follows from this one, and this one from it.
            attempt.ways = []
            attempt.begin(("last",), [rest], [])
        elif way[0] == "cases":
            halves = self.halves_told(way[1])
            cases = [bind(name, half, found) for name, half, found in zip(attempt.given, halves, attempt.done)]
            attempt.found = into("or", halves, ("told", goal), cases, ("told", way[1]), way[2])
        else:
            attempt.found = apply(("const", way[0]), [*self.halves_told(goal), *attempt.done])

    def within(self, row, found):
        """Return a proof within what binds it."""
        if row[0] == "fun":
            return bind(row[1], row[2], found)
        if row[0] == "cut":
            return ("app", bind(row[1], row[2], found), row[3])
        _, number, names, goal, proof = row
        halves = self.halves_told(number)
        case = bind(names[0], halves[0], bind(names[1], halves[1], found))
        return into("and", halves, ("told", goal), [case], ("told", number), proof)

    def take_left(self, sequent):
        """Take the left side of a goal in as a hypothesis."""
        left, right = self.formulas.halves[sequent.goal]
        name = self.constant()
        sequent.around.append(("fun", name, ("told", left)))
        sequent.waiting.append((left, ("const", name)))
        sequent.goal = right

    def take_in(self, sequent, number, one, proof):
        """Look at a hypothesis that leads to one sequent alone."""
        if one[0] == "and":
            names = (self.constant(), self.constant())
            sequent.around.append(("and", number, names, sequent.goal, proof))
            for half, name in zip(self.formulas.halves[number], names):
                sequent.waiting.append((half, ("const", name)))
        elif one[0] == "atom":
            sequent.known[number] = proof
            self.wake(sequent, number, proof)
        else:
            self.take_implication(sequent, number, one, proof)

    def wake(self, sequent, atom, proof):
        """Carry out all implications whose left side is an atom that became known."""
        for number in list(sequent.known):
            halves = self.formulas.halves[number]
            if halves != () and halves[0] == atom:
                self.put(sequent, halves[1], ("app", sequent.known.pop(number), proof))

    def put(self, sequent, number, proof):
        """Take a formula in as a hypothesis; a great proof is bound by a name, so that it stands there once."""
        if not is_small(proof, MOST_PLAIN, self.formulas.sizes):
            name = self.constant()
            sequent.around.append(("cut", name, ("told", number), proof))
            proof = ("const", name)
        sequent.waiting.append((number, proof))

    def take_implication(self, sequent, number, one, proof):
        """Look at an implication among the hypotheses, by what its left side is."""
        left, second = self.formulas.halves[number]
        halves = self.formulas.halves[left]
        if one[1][0] == "atom" and left in sequent.known:
            self.put(sequent, second, ("app", proof, sequent.known[left]))
        elif one[1][0] in ("atom", "imp"):
            sequent.known[number] = proof
        elif one[1][0] == "and":
            names = (self.constant(), self.constant())
            given = [("const", names[0]), ("const", names[1])]
            value = apply(("const", "both"), [*self.halves_told(left), *given])
            inner = bind(names[1], ("told", halves[1]), ("app", proof, value))
            simple = self.formulas.joined("imp", halves[0], self.formulas.joined("imp", halves[1], second))
            self.put(sequent, simple, bind(names[0], ("told", halves[0]), inner))
        elif one[1][0] == "or":
            for label, half in (("inl", halves[0]), ("inr", halves[1])):
                name = self.constant()
                value = ("app", proof, apply(("const", label), [*self.halves_told(left), ("const", name)]))
                self.put(sequent, self.formulas.joined("imp", half, second), bind(name, ("told", half), value))


def decide(kind, hyps=(), known=CONNECTIVES):
    """Return a proof of a statement from (statement, proof) rows, None if search shows that there is none.

    Products at the beginning over sorts, and those whose variable is used, are taken in first. Raise StepFault for too
    many tries.
    """
    search = Search()
    given = [(formula(one, known), proof) for one, proof in hyps]
    shape = Shape(kind)
    rows = []
    place = 0
    while kind[0] == "pi" and (kind[2][0] == "sort" or place in shape.used):
        own = put_in_all(kind[2], [("const", row[0]) for row in rows])
        rows.append((search.constant(), kind[1], own))
        if own[0] != "sort":
            given.append((formula(own, known), ("const", rows[-1][0])))
        place = shape.places_of(place, 2)[1]
        kind = kind[3]
    found = search.proof_of(given, formula(put_in_all(kind, [("const", row[0]) for row in rows]), known))
    if found is None:
        return None
    for name, label, own in reversed(rows):
        found = ("bind", name, label, own, found)
    return tied(found, search.formulas)
