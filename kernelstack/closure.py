"""Closure: which terms are equal by some equations, and by their parts, with proofs."""

from kernelstack.checker import Checker
from kernelstack.equality import (by_itself, carried_on, equal_statement, in_argument, in_function, joined_proofs,
                                  need_equality, plain_function, sides_of, turned)
from kernelstack.errors import StepFault, WorkFault
from kernelstack.holes import Holes
from kernelstack.terms import lifted, lowest_free

MOST_TERMS = 300
# A proof of more proofs within each other is too large: of any two of them, one stands two levels deeper, or more.
MOST_WITHIN = 67


class Link:
    """Another term, and why one is equal to it: a proof, whether that is turned, or None for equal parts."""

    def __init__(self, other, proof, is_turned):
        self.other = other
        self.proof = proof
        self.is_turned = is_turned


class Closure:
    """A signature, the kinds of terms, the least term of each one's class, links of terms, and applications."""

    def __init__(self, signature):
        need_equality(signature)
        self.signature = signature
        self.kinds = {}
        self.roots = {}
        # Terms have numbers here, by what they look like; links and classes are told by these numbers. Links lead from
        # term to term as in a tree, so that there is just one way from each to each other one of its class.
        self.terms = []
        self.numbers = {}
        self.classes = []
        self.links = []
        self.applications = []

    def add(self, term):
        """Take a term without free variables, and its parts, into account; raise StepFault for others, or too many.

        Its kind is of level 1. Applications are looked into if those of the function, argument and result are, too, and
        the last one hangs on nothing.
        """
        self.add_all([term])

    def add_all(self, terms):
        """Take terms and their parts into account, all of them or none."""
        fresh = {}
        for term in terms:
            self.find_fresh(term, fresh)
        for key in fresh:
            self.keep(key, fresh[key])
        for key in fresh:
            term, _, is_looked_into = fresh[key]
            if is_looked_into:
                self.applications.append((self.numbers[key], self.number_of(term[1]), self.number_of(term[2])))
        if fresh != {}:
            self.join_equal_parts()

    def find_fresh(self, term, fresh):
        """Add (term, kind, whether it is looked into) for a term and its parts that are not known to a table."""
        waiting = [term]
        while waiting:
            one = waiting.pop()
            key = f"{one!r}"
            if key in self.numbers or key in fresh:
                continue
            if lowest_free(one) > 0 or len(self.terms) + len(fresh) >= MOST_TERMS:
                raise StepFault("a term is open, or there are too many")
            kind = kind_of_closed(self.signature, one)
            if not is_usual(self.signature, kind):
                raise StepFault("a term's kind is of another level than 1")
            is_looked_into = is_plain_application(self.signature, one)
            fresh[key] = (one, kind, is_looked_into)
            if is_looked_into:
                waiting.extend([one[2], one[1]])

    def keep(self, key, row):
        """Keep a term and its kind, in a class of its own."""
        term, kind, _ = row
        self.kinds[term] = kind
        self.roots[term] = term
        self.numbers[key] = len(self.terms)
        self.classes.append(len(self.terms))
        self.links.append(None)
        self.terms.append(term)

    def number_of(self, term):
        """Return the number of a known term."""
        return self.numbers[f"{term!r}"]

    def assume(self, proof):
        """Take an equation into account, by its proof; raise StepFault for a proof of something else."""
        kind = Checker(self.signature).kind_term(proof)
        sides = sides_of(kind)
        if sides is None:
            raise StepFault("a proof is none of an equation")
        rows = [sides] + self.sides_told(proof)
        self.add_all([term for row in rows for term in row[1:]])
        for _, one, other in rows:
            self.join(self.number_of(one), self.number_of(other), Link(other, proof, False))
        self.join_equal_parts()

    def sides_told(self, proof):
        """Return a list of (kind, one, other) of an equation as it is told, before its definitions are put in."""
        try:
            told = sides_of(Holes(self.signature).kind_found(proof, ()))
        except WorkFault:
            told = None
        return [] if told is None else [told]

    def join(self, one, other, link):
        """Make one class of those of two terms, by a link from the first one to the second one."""
        if self.classes[one] == self.classes[other]:
            return
        self.lead_from(one)
        self.links[one] = link
        left = self.classes[one]
        right = self.classes[other]
        least = min(self.roots[self.terms[one]], self.roots[self.terms[other]])
        for number, term in enumerate(self.terms):
            if self.classes[number] in (left, right):
                self.classes[number] = right
                self.roots[term] = least

    def lead_from(self, number):
        """Turn the links that lead on from a term, so that all links of its class lead to it."""
        before = None
        while number is not None:
            link = self.links[number]
            self.links[number] = before
            if link is None:
                return
            before = Link(self.terms[number], link.proof, not link.is_turned)
            number = self.number_of(link.other)

    def join_equal_parts(self):
        """Make one class of those of applications whose functions and arguments are equal, as long as there are any."""
        is_done = False
        while not is_done:
            is_done = True
            seen = {}
            for number, function, argument in self.applications:
                key = (self.classes[function], self.classes[argument])
                other = seen.setdefault(key, number)
                if self.classes[other] != self.classes[number]:
                    self.join(number, other, Link(self.terms[other], None, False))
                    is_done = False

    def are_equal(self, one, other):
        """Return True if two terms are equal by what was assumed; they are added."""
        self.add_all([one, other])
        return self.classes[self.number_of(one)] == self.classes[self.number_of(other)]

    def explain(self, one, other):
        """Return the proof that two terms are equal; raise StepFault if they are not known to be."""
        if not self.are_equal(one, other):
            raise StepFault("two terms are not known to be equal")
        return Explainer(self).proof_of(self.number_of(one), self.number_of(other))

    def equation(self, one, other):
        """Return the statement that two known terms are equal."""
        return equal_statement(self.kinds[one], one, other)


class Explainer:
    """A closure, the proofs that were made of its links so far, and how many stand within each other."""

    def __init__(self, closure):
        self.closure = closure
        self.made = {}
        self.depth = 0

    def proof_of(self, one, other):
        """Return the proof that two terms of a class are equal, by their numbers."""
        if (one, other) not in self.made:
            self.depth += 1
            if self.depth > MOST_WITHIN:
                raise StepFault("a proof is too large")
            self.made[(one, other)] = self.proof_by_way(one, other)
            self.depth -= 1
        return self.made[(one, other)]

    def proof_by_way(self, one, other):
        """Return the proof that two terms are equal by the links that lead from one to the other."""
        steps = self.way_between(one, other)
        if steps == []:
            return by_itself(self.kind_at(one), self.closure.terms[one])
        return self.joined(steps, 0, len(steps))[2]

    def kind_at(self, number):
        """Return the kind of a term."""
        return self.closure.kinds[self.closure.terms[number]]

    def way_up(self, number):
        """Return (number, number of the next one, link, False) of the links that lead on from a term."""
        found = []
        while self.closure.links[number] is not None:
            link = self.closure.links[number]
            after = self.closure.number_of(link.other)
            found.append((number, after, link, False))
            number = after
        return found

    def way_between(self, one, other):
        """Return (number, number of the next one, link, whether it is gone backwards) from a term to another one."""
        first = self.way_up(one)
        second = self.way_up(other)
        while first != [] and second != [] and first[-1][0] == second[-1][0]:
            first.pop()
            second.pop()
        return first + [(after, number, link, True) for number, after, link, _ in reversed(second)]

    def joined(self, steps, start, end):
        """Return (number, number, proof) of some steps one after another, the halves of which are proved first."""
        if end - start == 1:
            one, other, link, is_backwards = steps[start]
            return (one, other, self.proof_of_step(one, other, link, is_backwards))
        middle = (start + end) // 2
        one, between, proof = self.joined(steps, start, middle)
        _, other, rest = self.joined(steps, middle, end)
        terms = self.closure.terms
        whole = joined_proofs(self.kind_at(one), (terms[one], terms[between], terms[other]), (proof, rest))
        return (one, other, whole)

    def proof_of_step(self, one, other, link, is_backwards):
        """Return the proof of a step by a link."""
        if link.proof is None:
            return self.proof_by_parts(one, other)
        if link.is_turned == is_backwards:
            return link.proof
        terms = self.closure.terms
        return turned(self.kind_at(one), terms[other], terms[one], link.proof)

    def proof_by_parts(self, one, other):
        """Return the proof that two applications are equal whose parts are."""
        left = self.closure.terms[one]
        right = self.closure.terms[other]
        if left[1] != right[1] and left[2] != right[2]:
            functions = self.proof_of(self.closure.number_of(left[1]), self.closure.number_of(right[1]))
            arguments = self.proof_of(self.closure.number_of(left[2]), self.closure.number_of(right[2]))
            kind = self.closure.kinds[left[1]]
            argument, result = plain_function(kind)
            first = in_function((kind, result), (left[1], right[1]), functions, left[2])
            second = in_argument((argument, result), right[1], left[2], right[2], arguments)
            return joined_proofs(result, (left, ("app", right[1], left[2]), right), (first, second))
        return self.proof_within(one, other)

    def proof_within(self, one, other):
        """Return the proof that applications are equal which differ in one part alone, however deep that stands."""
        left = self.closure.terms[one]
        around = []
        inner, opposite = one, other
        while True:
            first = self.closure.terms[inner]
            second = self.closure.terms[opposite]
            place = 1 if first[2] == second[2] else 2
            around.append((place, first[3 - place]))
            inner = self.closure.number_of(first[place])
            opposite = self.closure.number_of(second[place])
            if not self.are_parts_of_one(inner, opposite):
                break
        body = ("var", 0)
        for place, rest in reversed(around):
            body = ("app", body, lifted(rest, 1)) if place == 1 else ("app", lifted(rest, 1), body)
        kind = self.kind_at(one)
        statement = equal_statement(lifted(kind, 1), lifted(left, 1), body)
        terms = self.closure.terms
        return carried_on(self.kind_at(inner), terms[inner], terms[opposite], self.proof_of(inner, opposite), statement,
                          by_itself(kind, left))

    def are_parts_of_one(self, one, other):
        """Return True if two terms are equal by one link alone, for their parts, of which one is the same."""
        steps = self.way_between(one, other)
        if len(steps) != 1 or steps[0][2].proof is not None:
            return False
        left = self.closure.terms[one]
        right = self.closure.terms[other]
        return left[1] == right[1] or left[2] == right[2]


def kind_of_closed(signature, term):
    """Return the kind of a term without free variables, as a normal term."""
    return Checker(signature).kind_term(term)


def is_usual(signature, kind):
    """Return True if a kind is of level 1."""
    return Checker(signature).kind_term(kind) == ("sort", 1)


def is_plain_application(signature, term):
    """Return True for an application with a kind of level 1, by a function and of an argument with such kinds.

    The result's kind does not hang on the argument. Only within such applications are terms exchanged for equal ones.
    """
    if term[0] != "app":
        return False
    kind = kind_of_closed(signature, term[1])
    if not is_usual(signature, kind) or not is_usual(signature, kind_of_closed(signature, term[2])):
        return False
    return plain_function(kind) is not None
