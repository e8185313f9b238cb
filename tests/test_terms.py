import inspect
import itertools
import unittest

import kernelstack.terms as terms
from kernelstack.errors import TermError
from kernelstack.terms import (
    apply, arrow, binders, check_term, lifted, lowest_free, names_in, parts, pi_level, put_in, put_in_all, same, size,
    spine, split_pis, uses_name, uses_var, with_parts)
from samples import (
    FREE, NAT, NESTED, NEXT, PROP, REC, SAMPLES, TYPE, V0, V1, V2, V3, ZERO, all_nodes, exchanged, to_names,
    to_numbers)

VALUES = (V0, V2, NAT, ("lam", "v", V1, ("app", V0, V3)), ("let", "w", V0, V2, ("app", V0, ("pi", "u", V1, V2))))

SIGNATURES = {
    "parts": "(term)", "with_parts": "(term, fresh)", "check_term": "(term)", "lifted": "(term, many, start=0)",
    "put_in": "(term, value, start=0)", "put_in_all": "(term, values)", "lowest_free": "(term, depth=0)",
    "uses_var": "(term, number)", "uses_name": "(term, name)", "names_in": "(term)", "same": "(one, other)",
    "size": "(term)", "apply": "(function, arguments)", "spine": "(term)", "binders": "(word, rows, body)",
    "arrow": "(kind, body)", "split_pis": "(term, many)", "pi_level": "(one, other)",
}


def free_names(term):
    """Return the places in FREE of the names that stand free in a term, by the named term."""
    return [FREE.index(node) for node in all_nodes(to_names(term)) if node in FREE]


def renamed(term):
    """Return a term with other binders' names."""
    if term[0] in ("pi", "lam", "let"):
        term = (term[0], term[1] + "'") + term[2:]
    return with_parts(term, [renamed(part) for part, _ in parts(term)])


class TestInterface(unittest.TestCase):

    def test_names_and_arguments(self):
        for name, told in SIGNATURES.items():
            self.assertEqual(str(inspect.signature(getattr(terms, name))), told, name)
            self.assertEqual(getattr(terms, name).__module__, "kernelstack.terms", name)


class TestParts(unittest.TestCase):

    def test_each_form(self):
        self.assertEqual(parts(V3), ())
        self.assertEqual(parts(TYPE), ())
        self.assertEqual(parts(NAT), ())
        self.assertEqual(parts(REC), ())
        self.assertEqual(parts(("pi", "x", NAT, V1)), ((NAT, 0), (V1, 1)))
        self.assertEqual(parts(("lam", "x", NAT, V1)), ((NAT, 0), (V1, 1)))
        self.assertEqual(parts(("app", NEXT, V1)), ((NEXT, 0), (V1, 0)))
        self.assertEqual(parts(("let", "x", NAT, ZERO, V1)), ((NAT, 0), (ZERO, 0), (V1, 1)))

    def test_are_tuples(self):
        for term in SAMPLES:
            self.assertIsInstance(parts(term), tuple)
            for row in parts(term):
                self.assertIsInstance(row, tuple)
                self.assertEqual(len(row), 2)

    def test_other_parts(self):
        self.assertEqual(with_parts(V3, []), V3)
        self.assertEqual(with_parts(TYPE, ()), TYPE)
        self.assertEqual(with_parts(NAT, ()), NAT)
        self.assertEqual(with_parts(REC, []), REC)
        self.assertEqual(with_parts(("pi", "x", NAT, V1), [TYPE, V2]), ("pi", "x", TYPE, V2))
        self.assertEqual(with_parts(("lam", "x", NAT, V1), (TYPE, V2)), ("lam", "x", TYPE, V2))
        self.assertEqual(with_parts(("app", NEXT, V1), [NAT, V2]), ("app", NAT, V2))
        self.assertEqual(with_parts(("let", "x", NAT, ZERO, V1), (TYPE, V2, V0)), ("let", "x", TYPE, V2, V0))

    def test_its_own_parts_give_a_term_back(self):
        for term in SAMPLES:
            fresh = [part for part, _ in parts(term)]
            before = list(fresh)
            self.assertEqual(with_parts(term, fresh), term)
            self.assertEqual(with_parts(term, tuple(fresh)), term)
            self.assertEqual(fresh, before)


class TestLifted(unittest.TestCase):

    def test_each_form(self):
        self.assertEqual(lifted(V1, 2), V3)
        self.assertEqual(lifted(TYPE, 2), TYPE)
        self.assertEqual(lifted(NAT, 2), NAT)
        self.assertEqual(lifted(REC, 2), REC)
        self.assertEqual(lifted(("pi", "x", V0, ("app", V0, V1)), 2), ("pi", "x", V2, ("app", V0, V3)))
        self.assertEqual(lifted(("lam", "x", V0, ("app", V0, V1)), 2), ("lam", "x", V2, ("app", V0, V3)))
        self.assertEqual(lifted(("app", V0, V1), 2), ("app", V2, V3))
        self.assertEqual(lifted(("let", "x", V0, V1, ("app", V0, V1)), 2), ("let", "x", V2, V3, ("app", V0, V3)))

    def test_from_a_start(self):
        self.assertEqual(lifted(V0, 5, 1), V0)
        self.assertEqual(lifted(V1, 5, 1), ("var", 6))
        self.assertEqual(lifted(("lam", "x", V1, ("app", V1, V2)), 1, 1), ("lam", "x", V2, ("app", V1, V3)))

    def test_as_named_terms_tell(self):
        for term, many, start in itertools.product(SAMPLES, (0, 1, 3), (0, 1, 2)):
            inner = tuple(f"new {number}" for number in range(many))
            told = to_numbers(to_names(term), FREE[:start] + inner + FREE[start:])
            self.assertEqual(lifted(term, many, start), told, (term, many, start))


class TestPutIn(unittest.TestCase):

    def test_each_form(self):
        self.assertEqual(put_in(V0, ZERO), ZERO)
        self.assertEqual(put_in(V1, ZERO), V0)
        self.assertEqual(put_in(TYPE, ZERO), TYPE)
        self.assertEqual(put_in(NAT, ZERO), NAT)
        self.assertEqual(put_in(REC, ZERO), REC)
        self.assertEqual(put_in(("app", V0, V2), V3), ("app", V3, V1))
        self.assertEqual(put_in(("pi", "x", V0, ("app", V0, V1)), V2), ("pi", "x", V2, ("app", V0, V3)))
        self.assertEqual(put_in(("lam", "x", V0, ("app", V1, V2)), V2), ("lam", "x", V2, ("app", V3, V1)))
        self.assertEqual(put_in(("let", "x", V0, V1, V1), NAT), ("let", "x", NAT, V0, NAT))

    def test_from_a_start(self):
        self.assertEqual(put_in(V0, ZERO, 1), V0)
        self.assertEqual(put_in(V1, ZERO, 1), ZERO)
        self.assertEqual(put_in(V2, ZERO, 1), V1)
        # The value stands outside of the lesser variables' binders.
        self.assertEqual(put_in(V1, V0, 1), V1)
        self.assertEqual(put_in(("lam", "x", NAT, ("app", V1, V3)), V0, 2), ("lam", "x", NAT, ("app", V1, V3)))

    def test_as_named_terms_tell(self):
        for term, value, start in itertools.product(SAMPLES, VALUES, (0, 1, 2)):
            named = to_names(term, FREE[:start] + ("hole",) + FREE[start:])
            told = to_numbers(exchanged(named, {"hole": to_names(value, FREE[start:])}), FREE)
            self.assertEqual(put_in(term, value, start), told, (term, value, start))

    def test_what_was_lifted_comes_back(self):
        for term, value, start in itertools.product(SAMPLES, VALUES, (0, 1, 2)):
            self.assertEqual(put_in(lifted(term, 1, start), value, start), term)


class TestPutInAll(unittest.TestCase):

    def test_the_last_value_is_for_variable_0(self):
        term = ("app", ("app", ("app", V0, V1), V2), V3)
        self.assertEqual(put_in_all(term, [NAT, ZERO]), ("app", ("app", ("app", ZERO, NAT), V0), V1))

    def test_no_value(self):
        for term in SAMPLES:
            self.assertEqual(put_in_all(term, []), term)
            self.assertEqual(put_in_all(term, ()), term)

    def test_one_value(self):
        for term, value in itertools.product(SAMPLES, VALUES):
            self.assertEqual(put_in_all(term, [value]), put_in(term, value))

    def test_values_are_not_put_into_each_other(self):
        self.assertEqual(put_in_all(("app", V0, V1), [V3, V0]), ("app", V0, V3))
        self.assertEqual(put_in_all(("lam", "x", V1, ("app", V1, V2)), (V1, V0)), ("lam", "x", V1, ("app", V1, V2)))

    def test_as_named_terms_tell(self):
        for term, values in itertools.product(SAMPLES, itertools.permutations(VALUES, 3)):
            named = to_names(term, ("last", "middle", "first") + FREE)
            table = {name: to_names(value) for name, value in zip(("first", "middle", "last"), values)}
            given = list(values)
            self.assertEqual(put_in_all(term, given), to_numbers(exchanged(named, table), FREE), (term, values))
            self.assertEqual(given, list(values))


class TestLookingIn(unittest.TestCase):

    def test_lowest_free(self):
        self.assertEqual(lowest_free(NAT), 0)
        self.assertEqual(lowest_free(V0), 1)
        self.assertEqual(lowest_free(V3), 4)
        self.assertEqual(lowest_free(("app", V3, V0)), 4)
        self.assertEqual(lowest_free(("lam", "x", V0, V0)), 1)
        self.assertEqual(lowest_free(("lam", "x", NAT, V0)), 0)
        self.assertEqual(lowest_free(("pi", "x", NAT, V2)), 2)
        self.assertEqual(lowest_free(("let", "x", V0, V2, V1)), 3)

    def test_lowest_free_is_counted_outside(self):
        self.assertEqual(lowest_free(V3, 2), 2)
        self.assertEqual(lowest_free(V1, 2), 0)
        self.assertEqual(lowest_free(("lam", "x", NAT, V3), 2), 1)

    def test_lowest_free_as_named_terms_tell(self):
        for term, depth in itertools.product(SAMPLES, (0, 1, 2)):
            told = max((place + 1 - depth for place in free_names(term)), default=0)
            self.assertEqual(lowest_free(term, depth), max(0, told), (term, depth))

    def test_uses_var(self):
        self.assertIs(uses_var(V1, 1), True)
        self.assertIs(uses_var(V1, 0), False)
        self.assertIs(uses_var(("lam", "x", NAT, V0), 0), False)
        self.assertIs(uses_var(("lam", "x", NAT, V1), 0), True)
        self.assertIs(uses_var(("let", "x", NAT, V0, NAT), 0), True)
        for term, number in itertools.product(SAMPLES, range(5)):
            self.assertIs(uses_var(term, number), number in free_names(term), (term, number))

    def test_uses_name(self):
        self.assertIs(uses_name(NAT, "nat"), True)
        self.assertIs(uses_name(REC, "nat"), True)
        self.assertIs(uses_name(NAT, "O"), False)
        self.assertIs(uses_name(("lam", "nat", TYPE, V0), "nat"), False)
        self.assertIs(uses_name(("pi", "x", TYPE, ("let", "y", V0, ("app", V0, ZERO), V0)), "O"), True)

    def test_names_in(self):
        term = ("let", "a", ("app", NEXT, ZERO), ("lam", "b", REC, NEXT),
                ("pi", "O", ("const", "P"), ("app", ZERO, V0)))
        self.assertEqual(names_in(term), ("S", "O", "nat", "P"))
        self.assertEqual(names_in(V0), ())
        for term in SAMPLES:
            told = tuple(dict.fromkeys(node[1] for node in all_nodes(to_names(term)) if node[0] in ("const", "rec")))
            self.assertEqual(names_in(term), told)
            for name in ("nat", "x", "O"):
                self.assertIs(uses_name(term, name), name in told)

    def test_size(self):
        self.assertEqual(size(V0), 1)
        self.assertEqual(size(("app", V0, V0)), 3)
        self.assertEqual(size(("let", "x", NAT, ("app", NEXT, ZERO), ("lam", "y", NAT, V0))), 8)
        for term in SAMPLES:
            self.assertEqual(size(term), len(all_nodes(to_names(term))))


class TestSame(unittest.TestCase):

    def test_other_names(self):
        for term in SAMPLES:
            self.assertIs(same(term, term), True)
            self.assertIs(same(term, renamed(term)), True)
            self.assertIs(same(renamed(term), term), True)

    def test_more_than_names(self):
        for one, other in itertools.product(NESTED, repeat=2):
            self.assertIs(same(renamed(one), other), one == other, (one, other))

    def test_each_place(self):
        for one, other in ((V0, V1), (PROP, TYPE), (NAT, ZERO), (REC, ("rec", "nat", 0)), (REC, ("rec", "bool", 1)),
                           (NAT, REC), (V1, TYPE), (("pi", "x", NAT, V0), ("lam", "x", NAT, V0)),
                           (("pi", "x", NAT, V0), ("pi", "x", ZERO, V0)), (("pi", "x", NAT, V0), ("pi", "x", NAT, V1)),
                           (("lam", "x", NAT, V0), ("lam", "x", ZERO, V0)),
                           (("lam", "x", NAT, V0), ("lam", "x", NAT, V1)),
                           (("app", NEXT, V0), ("app", ZERO, V0)), (("app", NEXT, V0), ("app", NEXT, V1)),
                           (("let", "x", NAT, V0, V0), ("let", "x", ZERO, V0, V0)),
                           (("let", "x", NAT, V0, V0), ("let", "x", NAT, V1, V0)),
                           (("let", "x", NAT, V0, V0), ("let", "x", NAT, V0, V1)),
                           (("app", V0, V0), V0)):
            self.assertIs(same(one, other), False, (one, other))
            self.assertIs(same(other, one), False, (one, other))

    def test_names_of_constants_count(self):
        self.assertIs(same(("lam", "x", NAT, NAT), ("lam", "y", NAT, ZERO)), False)


class TestMaking(unittest.TestCase):

    def test_apply(self):
        self.assertEqual(apply(NEXT, []), NEXT)
        self.assertEqual(apply(NEXT, (V0,)), ("app", NEXT, V0))
        given = [V0, V1, NAT]
        self.assertEqual(apply(NEXT, given), ("app", ("app", ("app", NEXT, V0), V1), NAT))
        self.assertEqual(given, [V0, V1, NAT])

    def test_spine(self):
        self.assertEqual(spine(NEXT), (NEXT, []))
        self.assertEqual(spine(("app", ("app", NEXT, V0), V1)), (NEXT, [V0, V1]))
        self.assertEqual(spine(("app", V0, ("app", NEXT, V1))), (V0, [("app", NEXT, V1)]))
        for term in SAMPLES:
            head, arguments = spine(term)
            self.assertIsInstance(spine(term), tuple)
            self.assertIsInstance(arguments, list)
            self.assertNotEqual(head[0], "app")
            self.assertEqual(apply(head, arguments), term)

    def test_binders(self):
        rows = [("A", TYPE), ("x", V0)]
        self.assertEqual(binders("pi", rows, V1), ("pi", "A", TYPE, ("pi", "x", V0, V1)))
        self.assertEqual(binders("lam", tuple(rows), V1), ("lam", "A", TYPE, ("lam", "x", V0, V1)))
        self.assertEqual(binders("pi", [], V1), V1)
        self.assertEqual(rows, [("A", TYPE), ("x", V0)])

    def test_arrow(self):
        self.assertEqual(arrow(NAT, TYPE), ("pi", "_", NAT, TYPE))
        self.assertEqual(arrow(V0, V0), ("pi", "_", V0, V1))
        self.assertEqual(arrow(V1, ("lam", "x", V1, V0)), ("pi", "_", V1, ("lam", "x", V2, V0)))

    def test_split_pis_as_binders_made_them(self):
        rows = [("A", TYPE), ("x", V0), ("y", ("app", V1, V0))]
        made = binders("pi", rows, V2)
        for many in range(4):
            found = split_pis(made, many)
            self.assertIsInstance(found, tuple)
            self.assertIsInstance(found[0], list)
            self.assertEqual(found, (rows[:many], binders("pi", rows[many:], V2)))

    def test_split_pis_of_fewer_products(self):
        rows = [("A", TYPE), ("x", V0)]
        for body in (V2, ("lam", "x", TYPE, V0), ("let", "x", TYPE, PROP, ("pi", "y", V0, V1)), ("app", NAT, V0)):
            made = binders("pi", rows, body)
            self.assertEqual(split_pis(made, 2), (rows, body))
            with self.assertRaises(TermError):
                split_pis(made, 3)
        with self.assertRaises(TermError):
            split_pis(V0, 1)

    def test_pi_level(self):
        self.assertEqual(pi_level(0, 0), 0)
        self.assertEqual(pi_level(5, 0), 0)
        self.assertEqual(pi_level(12, 0), 0)
        self.assertEqual(pi_level(0, 5), 5)
        self.assertEqual(pi_level(3, 5), 5)
        self.assertEqual(pi_level(5, 3), 5)
        self.assertEqual(pi_level(1, 1), 1)


class TestKinds(unittest.TestCase):

    def test_terms_are_tuples(self):
        for term in SAMPLES:
            for made in (with_parts(term, [part for part, _ in parts(term)]), lifted(term, 1), put_in(term, V1),
                         put_in_all(term, [V0, V1]), apply(term, [V0]), spine(term)[0], arrow(term, V0),
                         binders("lam", [("x", term)], V0), check_term(term), names_in(term)):
                self.assertIsInstance(made, tuple)
            # Whatever made the term, it is a term: no list within it, and no number below 0.
            check_term(lifted(term, 1))
            check_term(put_in(term, V1))
            check_term(put_in_all(term, [V0, V1]))


if __name__ == "__main__":
    unittest.main()
