import inspect
import unittest

from kernelstack.data import Data, constructor_kind, data_kind, recursive_fields, recursor_kind
from kernelstack.terms import arrow, binders, check_term, lowest_free, same
from naive import NoKind, kind_of
from samples import NAT, NEXT, PROP, TYPE, TYPE1, V0, V1, V2, V3, ZERO, applied, products, to_numbers

LIST, VEC, EQ, ORD, ACC, TREE, MIX = (("const", name) for name in ("list", "vec", "eq", "ord", "acc", "tree", "mix"))
CONS, NIL, NODE = ("const", "cons"), ("const", "nil"), ("const", "node")

NAT_DATA = Data("nat", (), (), 1, (("O", (), ()), ("S", (("n", NAT),), ())))
FALSE_DATA = Data("false", (), (), 0, ())
LIST_DATA = Data("list", (("A", TYPE),), (), 1, (
    ("nil", (), ()), ("cons", (("a", V0), ("l", applied(LIST, V1))), ())))
VEC_DATA = Data("vec", (("A", TYPE),), (("k", NAT),), 1, (
    ("vnil", (), (ZERO,)),
    ("vcons", (("n", NAT), ("a", V1), ("v", applied(VEC, V2, V1))), (("app", NEXT, V2),))))
EQ_DATA = Data("eq", (("A", TYPE), ("a", V0)), (("b", V1),), 0, (("refl", (), (V0,)),))
ORD_DATA = Data("ord", (), (), 1, (
    ("zero", (), ()), ("next", (("o", ORD),), ()), ("limit", (("f", arrow(NAT, ORD)),), ())))
ACC_DATA = Data("acc", (("A", TYPE), ("R", arrow(V0, arrow(V0, PROP)))), (("x", V1),), 0, (
    ("make", (("x", V1),
              ("r", ("pi", "y", V2, arrow(applied(V2, V0, V1), applied(ACC, V3, V2, V0))))), (V1,)),))
TREE_DATA = Data("tree", (("A", TYPE),), (), 1, (
    ("node", (("l", applied(TREE, V0)), ("a", V1), ("r", applied(TREE, V2))), ()), ("leaf", (), ())))
# Two parameters and two indices, the second of which hangs on the first; recursive fields between others, one of them
# a function of two arguments, and not in the first constructor alone.
MIX_DATA = Data("mix", (("A", TYPE1), ("B", arrow(V0, TYPE))), (("i", V1), ("j", applied(V1, V0))), 2, (
    ("base", (("a", V1), ("b", applied(V1, V0))), (V1, V0)),
    ("more", (("a", V1),
              ("f", ("pi", "c", V2, ("pi", "d", applied(V2, V0), applied(MIX, ("var", 4), V3, V1, V0)))),
              ("b", applied(V2, V1)),
              ("m", applied(MIX, ("var", 4), V3, V2, V0))), (V3, V1)),
))

ALL = (NAT_DATA, FALSE_DATA, LIST_DATA, VEC_DATA, EQ_DATA, ORD_DATA, ACC_DATA, TREE_DATA, MIX_DATA)

KINDS = {}
for DATA in ALL:
    KINDS[DATA.name] = data_kind(DATA)
    for NUMBER, ROW in enumerate(DATA.constructors):
        KINDS[ROW[0]] = constructor_kind(DATA, NUMBER)


def sort(level):
    """Return the sort of a level."""
    return ("sort", level)


def to(*kinds):
    """Return the named kind of functions from kinds to the last one."""
    return products([("_", kind) for kind in kinds[:-1]], kinds[-1])


class TestData(unittest.TestCase):

    def test_names_and_arguments(self):
        self.assertEqual(str(inspect.signature(Data)), "(name, params, indices, level, constructors)")
        self.assertEqual(Data.__module__, "kernelstack.data")
        self.assertIn("shown", vars(Data))

    def test_fields_are_what_was_given(self):
        given = ("vec", (("A", TYPE),), (("k", NAT),), 1, VEC_DATA.constructors)
        data = Data(*given)
        self.assertEqual((data.name, data.params, data.indices, data.level, data.constructors), given)
        self.assertEqual(vars(data), dict(zip(("name", "params", "indices", "level", "constructors"), given)))

    def test_shown_is_the_declaration(self):
        for data in ALL:
            row = data.shown()
            self.assertIsInstance(row, tuple)
            self.assertEqual(row, ("data", data.name, data.params, data.indices, data.level, data.constructors))
            self.assertEqual(Data(*row[1:]).shown(), row)
        self.assertEqual(NAT_DATA.shown(), ("data", "nat", (), (), 1, (("O", (), ()), ("S", (("n", NAT),), ()))))
        self.assertEqual(FALSE_DATA.shown(), ("data", "false", (), (), 0, ()))

    def test_nothing_is_checked_yet(self):
        data = Data("nat", (), (), 12, (("O", (("n", PROP),), (V0,)),))
        self.assertEqual(data.shown(), ("data", "nat", (), (), 12, (("O", (("n", PROP),), (V0,)),)))

    def test_kinds_change_nothing(self):
        for data in ALL:
            before = data.shown()
            recursor_kind(data, 1)
            for number in range(len(data.constructors)):
                constructor_kind(data, number)
            self.assertEqual(data.shown(), before)


class TestKindsOfDataAndConstructors(unittest.TestCase):

    def test_data(self):
        self.assertEqual(data_kind(NAT_DATA), TYPE)
        self.assertEqual(data_kind(FALSE_DATA), PROP)
        self.assertEqual(data_kind(LIST_DATA), ("pi", "A", TYPE, TYPE))
        self.assertEqual(data_kind(VEC_DATA), ("pi", "A", TYPE, ("pi", "k", NAT, TYPE)))
        self.assertEqual(data_kind(EQ_DATA), ("pi", "A", TYPE, ("pi", "a", V0, ("pi", "b", V1, PROP))))

    def test_constructors(self):
        self.assertEqual(constructor_kind(NAT_DATA, 0), NAT)
        self.assertEqual(constructor_kind(NAT_DATA, 1), ("pi", "n", NAT, NAT))
        self.assertEqual(constructor_kind(LIST_DATA, 0), ("pi", "A", TYPE, applied(LIST, V0)))
        self.assertEqual(constructor_kind(LIST_DATA, 1), binders(
            "pi", [("A", TYPE), ("a", V0), ("l", applied(LIST, V1))], applied(LIST, V2)))
        self.assertEqual(constructor_kind(VEC_DATA, 1), binders(
            "pi", [("A", TYPE), ("n", NAT), ("a", V1), ("v", applied(VEC, V2, V1))],
            applied(VEC, V3, ("app", NEXT, V2))))
        self.assertEqual(constructor_kind(EQ_DATA, 0), binders("pi", [("A", TYPE), ("a", V0)], applied(EQ, V1, V0, V0)))

    def test_recursive_fields(self):
        told = {"O": [], "S": [0], "nil": [], "cons": [1], "vnil": [], "vcons": [2], "refl": [], "zero": [],
                "next": [0], "limit": [0], "make": [1], "node": [0, 2], "leaf": [], "base": [], "more": [1, 3]}
        for data in ALL:
            for number, row in enumerate(data.constructors):
                self.assertEqual(recursive_fields(data, number), told[row[0]], row[0])


class TestKindsOfRecursors(unittest.TestCase):

    def expect(self, data, level, named):
        """Compare a recursor's kind with a named term."""
        self.assertTrue(same(recursor_kind(data, level), to_numbers(named)), (recursor_kind(data, level), named))

    def test_without_parameters(self):
        for level in (0, 1, 12):
            self.expect(NAT_DATA, level, products(
                [("P", to(NAT, sort(level))),
                 ("case O", ("app", "P", ZERO)),
                 ("case S", products([("n", NAT), ("h", ("app", "P", "n"))], ("app", "P", ("app", NEXT, "n")))),
                 ("x", NAT)], ("app", "P", "x")))

    def test_without_constructors(self):
        false = ("const", "false")
        self.expect(FALSE_DATA, 2, products([("P", to(false, sort(2))), ("x", false)], ("app", "P", "x")))

    def test_with_parameters(self):
        self.expect(LIST_DATA, 3, products(
            [("A", TYPE),
             ("P", to(("app", LIST, "A"), sort(3))),
             ("case nil", ("app", "P", ("app", NIL, "A"))),
             ("case cons", products([("a", "A"), ("l", ("app", LIST, "A")), ("h", ("app", "P", "l"))],
                                    ("app", "P", applied(CONS, "A", "a", "l")))),
             ("x", ("app", LIST, "A"))], ("app", "P", "x")))

    def test_with_indices(self):
        self.expect(VEC_DATA, 1, products(
            [("A", TYPE),
             ("P", products([("k 1", NAT), ("x 1", applied(VEC, "A", "k 1"))], TYPE)),
             ("case vnil", applied("P", ZERO, ("app", ("const", "vnil"), "A"))),
             ("case vcons", products(
                 [("n", NAT), ("a", "A"), ("v", applied(VEC, "A", "n")), ("h", applied("P", "n", "v"))],
                 applied("P", ("app", NEXT, "n"), applied(("const", "vcons"), "A", "n", "a", "v")))),
             ("k", NAT), ("x", applied(VEC, "A", "k"))], applied("P", "k", "x")))

    def test_of_equality(self):
        self.expect(EQ_DATA, 0, products(
            [("A", TYPE), ("a", "A"),
             ("P", products([("b 1", "A"), ("x 1", applied(EQ, "A", "a", "b 1"))], PROP)),
             ("case refl", applied("P", "a", applied(("const", "refl"), "A", "a"))),
             ("b", "A"), ("x", applied(EQ, "A", "a", "b"))], applied("P", "b", "x")))

    def test_with_functions_as_fields(self):
        self.expect(ORD_DATA, 1, products(
            [("P", to(ORD, TYPE)),
             ("case zero", ("app", "P", ("const", "zero"))),
             ("case next", products([("o", ORD), ("h", ("app", "P", "o"))],
                                    ("app", "P", ("app", ("const", "next"), "o")))),
             ("case limit", products(
                 [("f", to(NAT, ORD)), ("h", products([("m", NAT)], ("app", "P", ("app", "f", "m"))))],
                 ("app", "P", ("app", ("const", "limit"), "f")))),
             ("x", ORD)], ("app", "P", "x")))
        self.expect(ACC_DATA, 0, products(
            [("A", TYPE), ("R", to("A", "A", PROP)),
             ("P", products([("i", "A"), ("x 1", applied(ACC, "A", "R", "i"))], PROP)),
             ("case make", products(
                 [("b", "A"), ("r", products([("y", "A"), ("s", applied("R", "y", "b"))], applied(ACC, "A", "R", "y"))),
                  ("h", products([("y 1", "A"), ("s 1", applied("R", "y 1", "b"))],
                                 applied("P", "y 1", applied("r", "y 1", "s 1"))))],
                 applied("P", "b", applied(("const", "make"), "A", "R", "b", "r")))),
             ("k", "A"), ("x", applied(ACC, "A", "R", "k"))], applied("P", "k", "x")))

    def test_with_several_recursive_fields(self):
        tree = ("app", TREE, "A")
        self.expect(TREE_DATA, 1, products(
            [("A", TYPE), ("P", to(tree, TYPE)),
             ("case node", products(
                 [("l", tree), ("a", "A"), ("r", tree), ("h 1", ("app", "P", "l")), ("h 2", ("app", "P", "r"))],
                 ("app", "P", applied(NODE, "A", "l", "a", "r")))),
             ("case leaf", ("app", "P", ("app", ("const", "leaf"), "A"))),
             ("x", tree)], ("app", "P", "x")))

    def test_with_all_of_these(self):
        def mix(one, other):
            return applied(MIX, "A", "B", one, other)

        self.expect(MIX_DATA, 5, products(
            [("A", TYPE1), ("B", to("A", TYPE)),
             ("P", products([("i 1", "A"), ("j 1", ("app", "B", "i 1")), ("x 1", mix("i 1", "j 1"))], sort(5))),
             ("case base", products([("a", "A"), ("b", ("app", "B", "a"))],
                                    applied("P", "a", "b", applied(("const", "base"), "A", "B", "a", "b")))),
             ("case more", products(
                 [("a", "A"), ("f", products([("c", "A"), ("d", ("app", "B", "c"))], mix("c", "d"))),
                  ("b", ("app", "B", "a")), ("m", mix("a", "b")),
                  ("h 1", products([("c 1", "A"), ("d 1", ("app", "B", "c 1"))],
                                   applied("P", "c 1", "d 1", applied("f", "c 1", "d 1")))),
                  ("h 2", applied("P", "a", "b", "m"))],
                 applied("P", "a", "b", applied(("const", "more"), "A", "B", "a", "f", "b", "m")))),
             ("i", "A"), ("j", ("app", "B", "i")), ("x", mix("i", "j"))], applied("P", "i", "j", "x")))

    def test_names_for_reading(self):
        self.assertEqual(recursor_kind(NAT_DATA, 1), to_numbers(products(
            [("P", products([("x 1", NAT)], TYPE)),
             ("_", ("app", "P", ZERO)),
             ("_", products([("n", NAT), ("h", ("app", "P", "n"))], ("app", "P", ("app", NEXT, "n")))),
             ("x", NAT)], ("app", "P", "x"))))
        # A hypothesis about what a function gives keeps the names of the function's arguments.
        case = recursor_kind(ACC_DATA, 0)[3][3][3][2]
        self.assertEqual([case[1], case[3][1], case[3][3][1], case[3][3][2][1]], ["x", "r", "h", "y"])


class TestAllKinds(unittest.TestCase):

    def test_are_terms_without_free_variables(self):
        for data in ALL:
            for kind in (data_kind(data), recursor_kind(data, 12),
                         *(constructor_kind(data, number) for number in range(len(data.constructors)))):
                self.assertIs(check_term(kind), kind)
                self.assertEqual(lowest_free(kind), 0)

    def test_have_kinds(self):
        for data in ALL:
            self.assertEqual(kind_of(data_kind(data), (), KINDS)[0], "sort", data.name)
            for number, row in enumerate(data.constructors):
                self.assertEqual(kind_of(constructor_kind(data, number), (), KINDS)[0], "sort", row[0])
            for level in (0, 1, 7):
                self.assertEqual(kind_of(recursor_kind(data, level), (), KINDS)[0], "sort", data.name)

    def test_the_naive_checker_refuses(self):
        for term in (("app", NEXT, TYPE), ("app", ZERO, ZERO), ("lam", "x", ZERO, V0), ("pi", "x", NAT, V0),
                     ("app", LIST, TYPE), applied(VEC, NAT, NAT)):
            with self.assertRaises(NoKind):
                kind_of(term, (), KINDS)


if __name__ == "__main__":
    unittest.main()
