"""Rewriting: terms brought to others by proved equations from left to right, with proofs."""

from kernelstack.closure import is_plain_application, is_usual, kind_of_closed
from kernelstack.equality import (by_itself, carried_on, equal_statement, joined_proofs, need_equality, of_a_size,
                                  sides_of)
from kernelstack.errors import KernelError, StepFault, TermError
from kernelstack.terms import all_pis, apply, check_term, lifted, put_in_all, same, uses_var

MOST_REWRITES = 1000
# What stands deeper is no term, and neither is a proof in which it stands.
MOST_WITHIN = 100


class Rule:
    """A name, how many variables it has, the kind, and both sides, under the variables."""

    def __init__(self, name, many, kind, left, right):
        self.name = name
        self.many = many
        self.kind = kind
        self.left = left
        self.right = right


def is_pattern(term):
    """Return True for a constant, applied or not to such terms and to variables."""
    while term[0] == "app":
        if term[2][0] != "var" and not is_pattern(term[2]):
            return False
        term = term[1]
    return term[0] == "const"


def read_rule(signature, name):
    """Return the rule of a proved equation, for all variables; raise StepFault for another statement.

    All variables stand on the left side, a term of constants applied to such terms, or to variables.
    """
    rows, body = all_pis(signature.kind_of(name))
    sides = sides_of(body)
    if sides is None or not is_pattern(sides[1]):
        raise StepFault(f"{name} is no rule")
    for number in range(len(rows)):
        if not uses_var(sides[1], number):
            raise StepFault(f"a variable of {name} does not stand on the left side")
    return Rule(name, len(rows), sides[0], sides[1], sides[2])


def matched(pattern, term, values):
    """Return whether a term without free variables is a pattern with values in the places of its variables.

    values is a table of variables to terms, which is added to. Patterns are of constants, applications and variables.
    """
    pairs = [(pattern, term)]
    while pairs:
        one, other = pairs.pop()
        if one[0] == "var":
            if not same(values.setdefault(one[1], other), other):
                return False
        elif one[0] == "app" and other[0] == "app":
            pairs.extend([(one[2], other[2]), (one[1], other[1])])
        elif one != other:
            return False
    return True


class Rewriter:
    """A signature, rules in order, and how many steps were made."""

    def __init__(self, signature, names, most=MOST_REWRITES):
        need_equality(signature)
        self.signature = signature
        self.rules = [read_rule(signature, name) for name in names]
        self.most = most
        self.steps = 0
        self.depth = 0
        # Kinds of terms, and whether they are looked into, by what the terms look like.
        self.known = {}

    def step_at(self, term):
        """Return (term, proof) of the first rule that fits a term as a whole, None if there is none."""
        for rule in self.rules:
            values = {}
            if matched(rule.left, term, values):
                if self.steps >= self.most:
                    raise StepFault("rewriting takes too many steps")
                self.steps += 1
                row = [values[number] for number in reversed(range(rule.many))]
                return (put_in_all(rule.right, row), apply(("const", rule.name), row))
        return None

    def rewritten(self, term):
        """Return (term to which no rule fits, proof that the first one is equal to it).

        Functions are looked at, then arguments, then the whole. Raise StepFault for more steps than there may be. Only
        terms without free variables are rewritten, only within applications of functions whose results' kinds do not
        hang on their arguments.
        """
        kind, _ = self.looked_at(check_term(term))
        if not is_usual(self.signature, kind):
            raise StepFault("a term's kind is of another level than 1")
        steps = self.steps
        self.depth = 0
        try:
            found, proof = self.brought_on(term)
            return (found, by_itself(kind, term) if proof is None else of_a_size(proof))
        except TermError:
            self.steps = steps
            raise StepFault("a term becomes too large")
        except KernelError:
            self.steps = steps
            raise

    def looked_at(self, term):
        """Return (kind, whether it is looked into) of a term."""
        key = f"{term!r}"
        if key not in self.known:
            kind = kind_of_closed(self.signature, term)
            self.known[key] = (kind, is_plain_application(self.signature, term) and is_usual(self.signature, kind))
        return self.known[key]

    def brought_on(self, term):
        """Return (term to which no rule fits, proof that one is equal to it), no proof for the same term."""
        self.depth += 1
        if self.depth > MOST_WITHIN:
            raise StepFault("a term becomes too deep")
        stages = []
        start = term
        step = (term, None)
        while step is not None:
            found, proof = self.with_parts_brought_on(start, step[0], step[1])
            if proof is not None:
                stages.append((start, found, proof))
            start = found
            step = self.step_at(found)
        self.depth -= 1
        return (start, self.joined_stages(stages, 0, len(stages)))

    def with_parts_brought_on(self, start, term, proof):
        """Return (term whose parts no rule fits, proof that another one is equal to it), given the proof for a term.

        Here and in what it returns, no proof stands for that of the same term.
        """
        kind, is_looked_into = self.looked_at(term)
        if not is_looked_into:
            return (term, proof)
        function, argument = term[1], term[2]
        found, inner = self.brought_on(function)
        if inner is not None:
            statement = equal_statement(lifted(kind, 1), lifted(start, 1), ("app", ("var", 0), lifted(argument, 1)))
            proof = self.carried(start, kind, (function, found), inner, statement, proof)
            function = found
        found, inner = self.brought_on(argument)
        if inner is not None:
            statement = equal_statement(lifted(kind, 1), lifted(start, 1), ("app", lifted(function, 1), ("var", 0)))
            proof = self.carried(start, kind, (argument, found), inner, statement, proof)
            argument = found
        return (("app", function, argument), proof)

    def carried(self, start, kind, ends, inner, statement, proof):
        """Return the proof of a statement about the second one of two equal parts, given one about the first."""
        known = by_itself(kind, start) if proof is None else proof
        return carried_on(self.looked_at(ends[0])[0], ends[0], ends[1], inner, statement, known)

    def joined_stages(self, stages, start, end):
        """Return the proof that the first term of some stages is equal to the last one, None for no stages."""
        if start == end:
            return None
        if end - start == 1:
            return stages[start][2]
        middle = (start + end) // 2
        terms = (stages[start][0], stages[middle][0], stages[end - 1][1])
        proofs = (self.joined_stages(stages, start, middle), self.joined_stages(stages, middle, end))
        return joined_proofs(self.looked_at(terms[0])[0], terms, proofs)
