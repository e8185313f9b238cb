import inspect
import itertools
import random
import unittest

from kernelstack import logic
from kernelstack.checker import check_all, is_proof
from kernelstack.elaborate import Elaborator
from kernelstack.errors import StepFault
from kernelstack.logic import CONNECTIVES, Search, alike, connectives, decide, formula, statement
from kernelstack.proof import Proof
from kernelstack.terms import check_term, lowest_free, names_in, same, size
from kernelstack.world import closed_context, world_of
from samples import NAT, PROP, TYPE, V0, V1, V2, applied
from stock import arrow, lam, pi

P, Q, R = (("const", name) for name in "PQR")
AND, OR, FALSE = (("const", name) for name in CONNECTIVES)
ROWS = (
    ("data", "and", (("A", PROP), ("B", PROP)), (), 0, (("both", (("a", V1), ("b", V1)), ()),)),
    ("data", "or", (("A", PROP), ("B", PROP)), (), 0, (("inl", (("a", V1),), ()), ("inr", (("b", V0),), ()))),
    ("data", "false", (), (), 0, ()),
    ("axiom", "P", PROP),
    ("axiom", "Q", PROP),
    ("axiom", "R", PROP),
)
SIGNATURE = check_all(ROWS)


def drawn(chance, deep):
    """Return a drawn formula of at most three letters, so deep."""
    if deep == 0 or chance.random() < 0.1:
        return ("false",) if chance.random() < 0.08 else ("atom", chance.choice((P, Q, R)))
    word = chance.choice(("imp", "imp", "and", "or"))
    return (word, drawn(chance, deep - 1), drawn(chance, deep - 1))


class Decision:
    """A decision of the tests' own: what follows from sets of formulas, by rules that keep all that they use."""

    def __init__(self):
        self.found = {}

    def follows(self, hyps, goal, inner):
        """Return whether a formula follows from others, among some formulas."""
        return goal in self.all_from(self.closed(frozenset(hyps)), inner)

    def closed(self, hyps):
        """Return formulas with the halves of conjunctions, and what known implications give."""
        while True:
            more = set(hyps)
            for one in hyps:
                if one[0] == "and":
                    more.update(one[1:])
                if one[0] == "imp" and one[1] in hyps:
                    more.add(one[2])
            if more == hyps:
                return frozenset(hyps)
            hyps = frozenset(more)

    def all_from(self, hyps, inner):
        """Return those of some formulas that follow from others."""
        if hyps in self.found:
            return self.found[hyps]
        if ("false",) in hyps:
            self.found[hyps] = frozenset(inner)
            return self.found[hyps]
        known = set(hyps)
        for one in hyps:
            if one[0] == "or" and one[1] not in hyps and one[2] not in hyps:
                left, right = (self.all_from(self.closed(hyps | {half}), inner) for half in one[1:])
                self.found[hyps] = left & right
                return self.found[hyps]
        changed = True
        while changed:
            changed = False
            for one in inner:
                if one not in known and self.at_once(one, known, hyps, inner):
                    known.add(one)
                    changed = True
            for one in hyps:
                if one[0] == "imp" and one[1] in known and one[2] not in hyps:
                    self.found[hyps] = self.all_from(self.closed(hyps | {one[2]}), inner)
                    return self.found[hyps]
        self.found[hyps] = frozenset(known)
        return self.found[hyps]

    def at_once(self, one, known, hyps, inner):
        """Return whether a formula follows by a rule for its own connective."""
        if one[0] == "and":
            return one[1] in known and one[2] in known
        if one[0] == "or":
            return one[1] in known or one[2] in known
        if one[0] == "imp":
            if one[2] in known:
                return True
            return one[1] not in hyps and one[2] in self.all_from(self.closed(hyps | {one[1]}), inner)
        return False


def parts_of(one):
    """Return a formula and all its parts."""
    found = {one}
    if one[0] in ("imp", "and", "or"):
        for half in one[1:]:
            found |= parts_of(half)
    return found


def follows(hyps, goal):
    """Return whether a formula follows from others, by the tests' own decision."""
    inner = set().union(*(parts_of(one) for one in [*hyps, goal]))
    return Decision().follows(hyps, goal, inner)


class TestFormulas(unittest.TestCase):
    def test_interface(self):
        for name, told in {
            "connectives": "(signature)",
            "statement": "(one)",
            "alike": "(one, other)",
            "closed": "(term, name, depth)",
            "function": "(name, kind, body)",
            "made": "(label, one, values)",
            "rec": "(name, params, goal, cases, kind, proof)",
        }.items():
            self.assertEqual(str(inspect.signature(getattr(logic, name))), told)
        for name, told in {"formula": ["term", "known"], "decide": ["kind", "hyps", "known"]}.items():
            self.assertEqual(list(inspect.signature(getattr(logic, name)).parameters), told)
        self.assertEqual(str(inspect.signature(vars(Search)["prove"])), "(self, hyps, goal)")

    def test_formulas_and_statements(self):
        for term, told in (
            (P, ("atom", P)),
            (arrow(P, Q), ("imp", ("atom", P), ("atom", Q))),
            (applied(AND, P, Q), ("and", ("atom", P), ("atom", Q))),
            (applied(OR, P, FALSE), ("or", ("atom", P), ("false",))),
            (FALSE, ("false",)),
            (pi(("x", NAT), ("app", P, V0)), ("atom", pi(("x", NAT), ("app", P, V0)))),
            (applied(AND, P), ("atom", applied(AND, P))),
            (AND, ("atom", AND)),
            (applied(FALSE, P), ("atom", applied(FALSE, P))),
            (V0, ("atom", V0)),
            (arrow(arrow(V0, V1), V2), ("imp", ("imp", ("atom", V0), ("atom", V1)), ("atom", V2))),
        ):
            self.assertEqual(formula(term), told)
            self.assertTrue(same(statement(told), term))
        self.assertEqual(formula(applied(AND, P, Q), ("or",)), ("atom", applied(AND, P, Q)))
        self.assertEqual(formula(FALSE, ()), ("atom", FALSE))
        chance = random.Random(3)
        for _ in range(200):
            one = drawn(chance, 4)
            self.assertEqual(formula(statement(one)), one)

    def test_alike(self):
        one = ("atom", pi(("x", NAT), ("app", P, V0)))
        other = ("atom", pi(("y", NAT), ("app", P, V0)))
        self.assertIs(alike(one, other), True)
        self.assertIs(alike(("imp", one, one), ("imp", other, one)), True)
        self.assertIs(alike(one, ("atom", P)), False)
        self.assertIs(alike(("and", one, one), ("or", one, one)), False)
        self.assertIs(alike(("and", one, ("false",)), ("and", one, one)), False)

    def test_connectives(self):
        self.assertEqual(connectives(SIGNATURE), ("and", "or", "false"))
        self.assertEqual(connectives(check_all(ROWS[1:])), ("or", "false"))
        self.assertEqual(connectives(check_all(())), ())
        self.assertEqual(
            connectives(check_all((("axiom", "and", arrow(PROP, arrow(PROP, PROP))), ("axiom", "false", PROP)))), ()
        )
        for text, told in (
            ("data and (A B : Prop) : Prop | pair (a : A) (b : B) end;", ()),
            ("data and (A B : Type) : Type | both (a : A) (b : B) end;", ()),
            ("data or (A B : Prop) : Prop | inl (a : A) | inr (b : B) | more end;", ()),
            ("data or (A B : Prop) : Prop | inr (a : A) | inl (b : B) end;", ()),
            ("data false : Prop | no end;", ()),
            ("data false : Type end;", ()),
            ("data false : Prop end;", ("false",)),
            ("data and {C D : Prop} : Prop | both (c : C) (d : D) end;", ("and",)),
        ):
            self.assertEqual(connectives(world_of(text).signature), told, text)


class TestDecide(unittest.TestCase):
    def expect(self, kind, told, hyps=()):
        """Compare whether a statement is decided with what is told, and test the proof by the kernel."""
        found = decide(kind, hyps, connectives(SIGNATURE))
        self.assertEqual(found is not None, told, kind)
        if told and not hyps:
            self.assertTrue(is_proof(SIGNATURE, check_term(found), kind))
        return found

    def test_drawn_formulas(self):
        chance = random.Random(31)
        told = {True: 0, False: 0}
        for number in range(900):
            one = drawn(chance, 2 + number % 3)
            answer = follows((), one)
            self.expect(statement(one), answer)
            told[answer] += 1
        self.assertGreater(min(told.values()), 150)

    def test_drawn_formulas_with_hypotheses(self):
        chance = random.Random(32)
        told = {True: 0, False: 0}
        for _ in range(300):
            hyps = [drawn(chance, 2) for _ in range(chance.randrange(1, 4))]
            goal = drawn(chance, 2)
            rows = [(f"h{number}", statement(one)) for number, one in enumerate(hyps)]
            context = closed_context(rows)
            proof = Proof(SIGNATURE, {}, context, statement(goal))
            answer = follows(hyps, goal)
            told[answer] += 1
            if not answer:
                with self.assertRaises(StepFault):
                    proof.step(("decide",))
                continue
            proof.step(("decide",))
            self.assertTrue(is_proof(SIGNATURE, lam(*rows, proof.finish()), pi(*rows, statement(goal))))
            found = decide(statement(goal), [(kind, ("const", f"#h{number}")) for number, (_, kind) in enumerate(rows)])
            self.assertIsNotNone(found)
        self.assertGreater(min(told.values()), 80)

    def test_well_known_ones(self):
        p, q, r = ("atom", P), ("atom", Q), ("atom", R)
        no = {one: ("imp", one, ("false",)) for one in (p, q, r)}
        for one, told in (
            (("or", p, no[p]), False),
            (("imp", ("imp", ("imp", p, q), p), p), False),
            (("imp", ("imp", ("or", p, no[p]), ("false",)), ("false",)), True),
            (("imp", p, ("imp", no[p], ("false",))), True),
            (("imp", ("false",), p), True),
            (("imp", ("imp", no[p], ("false",)), p), False),
            (("or", ("imp", p, q), ("imp", q, p)), False),
            (("imp", ("and", p, ("or", q, r)), ("or", ("and", p, q), ("and", p, r))), True),
            (("imp", ("imp", ("imp", ("imp", ("imp", p, q), p), p), q), q), True),
            (("imp", ("imp", ("and", p, q), r), ("imp", p, ("imp", q, r))), True),
            (p, False),
            (("false",), False),
        ):
            self.expect(statement(one), told)
            self.assertEqual(follows((), one), told)

    def test_without_connectives(self):
        signature = check_all(
            (
                ("axiom", "P", PROP),
                ("axiom", "Q", PROP),
                ("axiom", "false", PROP),
                ("axiom", "and", arrow(PROP, arrow(PROP, PROP))),
            )
        )
        known = connectives(signature)
        both = applied(AND, P, Q)
        for kind, told in (
            (arrow(both, both), True),
            (arrow(both, P), False),
            (arrow(FALSE, P), False),
            (arrow(P, arrow(arrow(P, both), both)), True),
            (arrow(P, arrow(Q, both)), False),
        ):
            found = decide(kind, (), known)
            self.assertEqual(found is not None, told)
            if told:
                self.assertTrue(is_proof(signature, found, kind))

    def test_products_in_front(self):
        for kind, told in (
            (pi(("A", PROP), arrow(V0, V0)), True),
            (pi(("A", PROP), V0), False),
            (pi(("A", PROP), ("B", PROP), arrow(applied(AND, V0, V1), applied(AND, V1, V0))), True),
            (pi(("A", TYPE), P), False),
            (pi(("A", TYPE), arrow(P, P)), True),
            (pi(("A", TYPE), ("F", arrow(V0, PROP)), ("a", V1), arrow(("app", V1, V0), ("app", V1, V0))), True),
            (
                pi(
                    ("A", TYPE),
                    ("F", arrow(V0, PROP)),
                    arrow(pi(("a", V1), ("app", V1, V0)), pi(("a", V1), ("app", V1, V0))),
                ),
                True,
            ),
            (
                pi(
                    ("A", TYPE),
                    ("F", arrow(V0, PROP)),
                    ("a", V1),
                    arrow(pi(("a", V2), ("app", V2, V0)), ("app", V1, V0)),
                ),
                False,
            ),
            (arrow(P, pi(("A", PROP), arrow(V0, P))), False),
        ):
            self.expect(kind, told)

    def test_search(self):
        self.assertEqual(Search().prove([(("atom", P), ("const", "#p"))], ("atom", P)), ("const", "#p"))
        self.assertIsNone(Search().prove([(("atom", P), ("const", "#p"))], ("atom", Q)))
        self.assertIsNotNone(Search().prove([(("false",), ("const", "#p"))], ("atom", Q)))
        search = Search()
        search.nodes = 200000
        with self.assertRaises(StepFault):
            search.prove([], ("atom", P))

    def test_long_formulas(self):
        for word in ("and", "or", "imp"):
            whole = ("atom", P)
            for number in range(45):
                whole = (word, ("atom", (P, Q, R)[number % 3]), whole)
            kind = statement(("imp", whole, whole))
            self.assertTrue(is_proof(SIGNATURE, decide(kind), kind))
        whole = ("atom", P)
        for _ in range(130):
            whole = ("and", ("atom", P), whole)
        self.assertIsNotNone(decide(statement(whole), [(P, ("const", "#p"))]))

    def test_sequents_within_each_other(self):
        # Each of these looks at hundreds of sequents within each other, or makes a proof of hundreds of levels.
        def letter(number):
            return ("const", f"a{number}")

        many = 150
        half = [(arrow(arrow(letter(number), letter(number)), letter(number + 1)), ("const", f"h{number}"))
                for number in range(many)]
        either = [(applied(OR, letter(2 * number), letter(2 * number + 1)), ("const", f"h{number}"))
                  for number in range(100)]
        one, other = P, P
        for number in range(50):
            one, other = applied(OR, letter(number), one), applied(OR, letter(49 - number), other)
        both = letter(0)
        for number in range(1, many):
            both = applied(AND, letter(number), both)
        for hyps, goal in ((half, letter(many)), ([(one, ("const", "h"))], other), ([(both, ("const", "h"))], letter(0)),
                           ([(letter(number), ("const", f"h{number}")) for number in range(many)], both)):
            found = decide(goal, hyps)
            self.assertIsNotNone(found)
            self.assertGreater(size(found), 149)
            self.assertEqual(lowest_free(found), 0)
            self.assertFalse(any(name.startswith("#") for name in names_in(found)))
        self.assertIsNone(decide(Q, half))
        self.assertIsNone(decide(Q, [(one, ("const", "h"))]))
        # Nothing is looked at twice where one disjunction is enough.
        self.assertIsNotNone(decide(P, either + [(arrow(letter(0), P), V0), (arrow(letter(1), P), V1)]))
        self.assertIsNone(decide(Q, [(both, ("const", "h"))]))
        self.assertIsNone(decide(both, [(letter(number), ("const", "h")) for number in range(1, many)]))

    def test_hypotheses_that_are_open_terms(self):
        # Proofs told for hypotheses have free variables, which see nothing of what is bound around them.
        hyps = [(applied(("const", "or"), P, Q), ("var", 0)), (arrow(P, R), lam(("x", P), ("app", ("var", 2), V0))),
                (arrow(Q, R), ("var", 2))]
        found = decide(arrow(Q, R), hyps)
        kind = pi(("a", arrow(Q, R)), ("b", arrow(P, R)), ("h", applied(("const", "or"), P, Q)), arrow(Q, R))
        self.assertTrue(is_proof(SIGNATURE, lam(("a", arrow(Q, R)), ("b", arrow(P, R)),
                                                ("h", applied(("const", "or"), P, Q)), found), kind))
        found = decide(R, hyps)
        kind = pi(("a", arrow(Q, R)), ("b", arrow(P, R)), ("h", applied(("const", "or"), P, Q)), R)
        self.assertTrue(is_proof(SIGNATURE, lam(("a", arrow(Q, R)), ("b", arrow(P, R)),
                                                ("h", applied(("const", "or"), P, Q)), found), kind))

    def test_letters_that_are_no_names(self):
        # Atoms are the same if they differ in binders' names alone.
        one, other = pi(("x", PROP), V0), pi(("y", PROP), V0)
        self.expect(arrow(applied(AND, one, P), applied(AND, P, other)), True)


class TestAllSmallFormulas(unittest.TestCase):
    def test_two_letters_two_deep(self):
        letters = [("atom", P), ("atom", Q), ("false",)]
        ones = letters + [
            (word, one, other) for word in ("imp", "and", "or") for one, other in itertools.product(letters, repeat=2)
        ]
        for word in ("imp", "or"):
            for one, other in itertools.product(ones, repeat=2):
                whole = (word, one, other)
                found = decide(statement(whole))
                self.assertEqual(found is not None, follows((), whole), whole)
                if found is not None:
                    self.assertTrue(is_proof(SIGNATURE, found, statement(whole)))


if __name__ == "__main__":
    unittest.main()
