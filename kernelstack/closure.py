"""Closure: which terms are equal by some equations, and by their parts, with proofs."""

from kernelstack.checker import Checker
from kernelstack.equality import (by_itself, carried_on, equal_statement, joined_proofs, need_equality, plain_function,
                                  sides_of, turned)
from kernelstack.errors import KernelError, StepFault, WorkFault
from kernelstack.kinds import KindFinder
from kernelstack.terms import lifted, lowest_free, parts

MOST_TERMS = 300
# More proofs within each other are too large, since each of them stands at least one level deeper.
MOST_WITHIN = 100


class Link:
    """Another term, and why one is equal to it: a proof, whether that is turned, or None for equal parts."""

    def __init__(self, other, proof, is_turned):
        self.other = other
        self.proof = proof
        self.is_turned = is_turned


class Closure:
    """A signature, the kinds of terms, the least term of each one's class, links of terms, and applications."""

    def __init__(self, signature):
        need_equality(signature)
        self.signature = signature
        self.kinds = {}
        self.roots = {}
        # Terms have numbers here, by what they look like; links and classes are told by these numbers. Links lead from
        # term to term as in a tree, so that there is just one way from each to each other one of its class.
        self.terms = []
        self.numbers = {}
        self.classes = []
        self.links = []
        self.applications = []

    def add(self, term):
        """Take a term without free variables, and its parts, into account; raise StepFault for others, or too many.

        Its kind is of level 1. Applications are looked into if those of the function, argument and result are, too, and
        the last one hangs on nothing.
        """
        self.add_all([term])

    def add_all(self, terms):
        """Take terms and their parts into account, all of them or none."""
        fresh = {}
        for term in terms:
            self.find_fresh(term, fresh)
        for key in fresh:
            self.keep(key, fresh[key])
        for key in fresh:
            term, _, is_looked_into = fresh[key]
            if is_looked_into:
                self.applications.append((self.numbers[key], self.number_of(term[1]), self.number_of(term[2])))
        if fresh != {}:
            self.unite_equal_parts()

    def find_fresh(self, term, fresh):
        """Add (term, kind, whether it is looked into) for a term and its parts that are not known to a table."""
        waiting = [term]
        while waiting:
            one = waiting.pop()
            if one in self.kinds:
                continue
            if lowest_free(one) > 0 or len(self.terms) >= MOST_TERMS:
                raise StepFault("a term is open, or there are too many")
            kind = kind_of_closed(self.signature, one)
            key = f"{one!r}"
            if key in fresh:
                continue
            if len(self.terms) + len(fresh) >= MOST_TERMS:
                raise StepFault("there are too many terms")
            if not is_usual(self.signature, kind):
                raise StepFault("a term's kind is of another level than 1")
            is_looked_into = is_plain_application(self.signature, one)
            fresh[key] = (one, kind, is_looked_into)
            if is_looked_into:
                waiting.extend([one[2], one[1]])

    def keep(self, key, row):
        """Keep a term and its kind, in a class of its own."""
        term, kind, _ = row
        self.kinds[term] = kind
        self.roots[term] = term
        self.numbers[key] = len(self.terms)
        self.classes.append(len(self.terms))
        self.links.append(None)
        self.terms.append(term)

    def number_of(self, term):
        """Return the number of a known term."""
        return self.numbers[f"{term!r}"]

    def assume(self, proof):
        """Take an equation into account, by its proof; raise StepFault for a proof of something else."""
        reckoned = sides_of(Checker(self.signature).kind_term(proof))
        if reckoned is None:
            raise StepFault("a proof is none of an equation")
        told = self.sides_told(proof)
        self.assume_sides(reckoned if told is None else told, proof)
        # A proof's kind is also what it is reckoned to, if there is room for that.
        if told is not None and told != reckoned:
            try:
                self.assume_sides(reckoned, proof)
            except KernelError:
                return

    def sides_told(self, proof):
        """Return (kind, one, other) of an equation as it is told, before definitions are put in, None if it is none."""
        try:
            return sides_of(KindFinder(self.signature).kind_found(proof, ()))
        except WorkFault:
            return None

    def assume_sides(self, sides, proof):
        """Take an equation into account, by its sides."""
        _, one, other = sides
        self.add_all([one, other])
        self.unite(self.number_of(one), self.number_of(other), Link(other, proof, False))
        self.unite_equal_parts()

    def unite(self, one, other, link):
        """Make one class of those of two terms, by a link from the first one to the second one."""
        if self.classes[one] == self.classes[other]:
            return
        self.lead_from(one)
        self.links[one] = link
        left = self.classes[one]
        right = self.classes[other]
        least = min(self.roots[self.terms[one]], self.roots[self.terms[other]])
        for number, term in enumerate(self.terms):
            if self.classes[number] in (left, right):
                self.classes[number] = right
                self.roots[term] = least

    def lead_from(self, number):
        """Turn the links that lead on from a term, so that all links of its class lead to it."""
        before = None
        while number is not None:
            link = self.links[number]
            self.links[number] = before
            if link is None:
                return
            before = Link(self.terms[number], link.proof, not link.is_turned)
            number = self.number_of(link.other)

    def unite_equal_parts(self):
        """Make one class of those of applications whose functions and arguments are equal, as long as there are any."""
        is_done = False
        while not is_done:
            is_done = True
            seen = {}
            for number, function, argument in self.applications:
                key = (self.classes[function], self.classes[argument])
                other = seen.setdefault(key, number)
                if self.classes[other] != self.classes[number]:
                    self.unite(number, other, Link(self.terms[other], None, False))
                    is_done = False

    def are_equal(self, one, other):
        """Return True if two terms are equal by what was assumed; they are added."""
        self.add_all([one, other])
        return self.classes[self.number_of(one)] == self.classes[self.number_of(other)]

    def explain(self, one, other):
        """Return the proof that two terms are equal; raise StepFault if they are not known to be."""
        if not self.are_equal(one, other):
            raise StepFault("two terms are not known to be equal")
        return Explainer(self).proof_of(self.number_of(one), self.number_of(other))

    def equation(self, one, other):
        """Return the statement that two known terms are equal."""
        return equal_statement(self.kinds[one], one, other)


class Move:
    """A step from a term to an equal one: a plain proof, or equal parts, by their numbers, and what stands around.

    What stands around is (place of the part in its application, the other part of that), the outermost first.
    """

    def __init__(self, left, right, proof, ends, around):
        self.left = left
        self.right = right
        self.proof = proof
        self.ends = ends
        self.around = around

    def statement(self, kind, left, right):
        """Return the statement that two terms are equal, under a variable that stands for the part of one of them.

        That one is told as None.
        """
        body = ("var", 0)
        for place, rest in reversed(self.around):
            body = ("app", body, lifted(rest, 1)) if place == 1 else ("app", lifted(rest, 1), body)
        sides = [body if side is None else lifted(side, 1) for side in (left, right)]
        return equal_statement(lifted(kind, 1), sides[0], sides[1])


class Explainer:
    """A closure, the proofs that were made of its links so far, and how many stand within each other."""

    def __init__(self, closure):
        self.closure = closure
        self.made = {}
        self.depth = 0

    def proof_of(self, one, other):
        """Return the proof that two terms of a class are equal, by their numbers."""
        if (one, other) not in self.made:
            self.depth += 1
            if self.depth > MOST_WITHIN:
                raise StepFault("a proof is too large")
            kind = self.closure.kinds[self.closure.terms[one]]
            moves = []
            for step in self.way_between(one, other):
                moves.extend(self.moves_of(kind, step))
            if moves == []:
                self.made[(one, other)] = by_itself(kind, self.closure.terms[one])
            else:
                self.made[(one, other)] = self.joined_moves(kind, moves)
            self.depth -= 1
        return self.made[(one, other)]

    def way_up(self, number):
        """Return (number, number of the next one, link, False) of the links that lead on from a term."""
        found = []
        while self.closure.links[number] is not None:
            link = self.closure.links[number]
            after = self.closure.number_of(link.other)
            found.append((number, after, link, False))
            number = after
        return found

    def way_between(self, one, other):
        """Return (number, number of the next one, link, whether it is gone backwards) from a term to another one."""
        first = self.way_up(one)
        second = self.way_up(other)
        while first != [] and second != [] and first[-1][0] == second[-1][0]:
            first.pop()
            second.pop()
        return first + [(after, number, link, True) for number, after, link, _ in reversed(second)]

    def moves_of(self, kind, step):
        """Return the moves of a step by a link."""
        left = self.closure.terms[step[0]]
        right = self.closure.terms[step[1]]
        link = step[2]
        if link.proof is not None:
            proof = link.proof if link.is_turned == step[3] else turned(kind, right, left, link.proof)
            return [Move(left, right, proof, None, [])]
        if left[1] == right[1] or left[2] == right[2]:
            return [self.move_within(left, right)]
        between = ("app", right[1], left[2])
        return [self.move_within(left, between), self.move_within(between, right)]

    def move_within(self, left, right):
        """Return the move between applications that differ in one part alone, however deep that stands."""
        around = []
        one, other = left, right
        while one == left or self.differ_in_a_part(one, other):
            place = 1 if one[2] == other[2] else 2
            around.append((place, one[3 - place]))
            one, other = one[place], other[place]
        return Move(left, right, None, (self.closure.number_of(one), self.closure.number_of(other)), around)

    def differ_in_a_part(self, one, other):
        """Return True if two terms are equal by one link alone, for their parts, of which one is the same."""
        steps = self.way_between(self.closure.number_of(one), self.closure.number_of(other))
        if len(steps) != 1 or steps[0][2].proof is not None:
            return False
        return one[1] == other[1] or one[2] == other[2]

    def joined_moves(self, kind, moves):
        """Return the proof that the first term of some moves is equal to the last one.

        The deepest proof of parts is put where it stands least deep in the whole.
        """
        places = [place for place, move in enumerate(moves) if move.proof is None]
        if places == []:
            return self.joined_plain(kind, moves)
        depths = [levels(self.proof_of(moves[at].ends[0], moves[at].ends[1])) for at in places]
        place = places[depths.index(max(depths))]
        move = moves[place]
        start, end = moves[0].left, moves[-1].right
        if place == len(moves) - 1:
            known = by_itself(kind, start) if place == 0 else self.joined_moves(kind, moves[:place])
            return self.carried_by(move.ends, move.statement(kind, start, None), known)
        rest = self.joined_moves(kind, moves[place + 1:])
        back = self.carried_by((move.ends[1], move.ends[0]), move.statement(kind, None, end), rest)
        if place == 0:
            return back
        return joined_proofs(kind, (start, move.left, end), (self.joined_moves(kind, moves[:place]), back))

    def carried_by(self, ends, statement, known):
        """Return the proof of a statement about the second one of two equal parts, given one about the first."""
        one, other = self.closure.terms[ends[0]], self.closure.terms[ends[1]]
        return carried_on(self.closure.kinds[one], one, other, self.proof_of(ends[0], ends[1]), statement, known)

    def joined_plain(self, kind, moves):
        """Return the proof that the first term of moves with plain proofs is equal to the last one, halves first."""
        if len(moves) == 1:
            return moves[0].proof
        middle = len(moves) // 2
        proofs = (self.joined_plain(kind, moves[:middle]), self.joined_plain(kind, moves[middle:]))
        return joined_proofs(kind, (moves[0].left, moves[middle].left, moves[-1].right), proofs)


def levels(term):
    """Return how many levels a term has."""
    deepest = 0
    waiting = [(term, 1)]
    while waiting:
        one, level = waiting.pop()
        deepest = max(deepest, level)
        waiting.extend([(part, level + 1) for part, _ in parts(one)])
    return deepest


def kind_of_closed(signature, term):
    """Return the kind of a term without free variables, as a normal term."""
    return Checker(signature).kind_term(term)


def is_usual(signature, kind):
    """Return True if a kind is of level 1."""
    return Checker(signature).kind_term(kind) == ("sort", 1)


def is_plain_application(signature, term):
    """Return True for an application with a kind of level 1, by a function and of an argument with such kinds.

    The result's kind does not hang on the argument. Only within such applications are terms exchanged for equal ones.
    """
    if term[0] != "app":
        return False
    kind = kind_of_closed(signature, term[1])
    if not is_usual(signature, kind) or not is_usual(signature, kind_of_closed(signature, term[2])):
        return False
    return plain_function(kind) is not None
