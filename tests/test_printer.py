import inspect
import random
import unittest

from kernelstack import printer
from kernelstack.checker import check_all
from kernelstack.printer import declaration_text, file_text, fresh, term_text
from kernelstack.terms import same
from kernelstack.world import World, world_of
from drawn import Drawer
from samples import NAT, NEXT, PROP, TYPE, V0, V1, V2, ZERO, applied
from stock import BOOL, EQ, LIST, PLUS, REC, ROWS, SIGNATURE, lam, num, pi

STOCK = World()
STOCK.signature = SIGNATURE


class TestTexts(unittest.TestCase):
    def expect(self, term, told, names=()):
        """Compare a term's text with another one."""
        self.assertEqual(term_text(term, names), told)

    def test_interface(self):
        for name, told in {
            "fresh": "(name, taken)",
            "term_text": "(term, names=())",
            "declaration_text": "(declaration)",
            "file_text": "(declarations)",
        }.items():
            self.assertEqual(str(inspect.signature(getattr(printer, name))), told)

    def test_fresh(self):
        self.assertEqual(fresh("x", ()), "x")
        self.assertEqual(fresh("x", ("y", "x'")), "x")
        self.assertEqual(fresh("x", ("x",)), "x'")
        self.assertEqual(fresh("x", ["x", "x'", "x''"]), "x'''")

    def test_plain_terms(self):
        self.expect(ZERO, "@O")
        self.expect(PROP, "Prop")
        self.expect(TYPE, "Type")
        self.expect(("sort", 2), "Type 1")
        self.expect(("sort", 12), "Type 11")
        self.expect(("rec", "nat", 3), "rec[nat 3]")
        self.expect(V1, "b", ("a", "b"))

    def test_applications_and_brackets(self):
        self.expect(applied(PLUS, V0, ZERO), "@plus a @O", ("a",))
        self.expect(applied(NEXT, applied(NEXT, ZERO)), "@S (@S @O)")
        self.expect(applied(LIST, PROP, TYPE, ("sort", 2)), "@list Prop Type (Type 1)")
        self.expect(applied(NEXT, ("rec", "nat", 0)), "@S rec[nat 0]")
        self.expect(applied(NEXT, lam(("x", NAT), V0)), "@S (fun (x : @nat) => x)")
        self.expect(applied(NEXT, ("let", "x", NAT, ZERO, V0)), "@S (let x : @nat := @O in x)")
        self.expect(applied(NEXT, pi(("x", NAT), NAT)), "@S (@nat -> @nat)")
        self.expect(applied(lam(("x", NAT), V0), ZERO, ZERO), "(fun (x : @nat) => x) @O @O")

    def test_products(self):
        self.expect(pi(("x", NAT), NAT), "@nat -> @nat")
        self.expect(pi(("x", NAT), ("y", NAT), NAT), "@nat -> @nat -> @nat")
        self.expect(pi(("f", pi(("x", NAT), NAT)), NAT), "(@nat -> @nat) -> @nat")
        self.expect(pi(("x", applied(LIST, NAT)), NAT), "(@list @nat) -> @nat")
        self.expect(pi(("x", TYPE), NAT), "Type -> @nat")
        self.expect(pi(("x", ("sort", 2)), NAT), "(Type 1) -> @nat")
        self.expect(pi(("x", ("rec", "nat", 1)), NAT), "rec[nat 1] -> @nat")
        self.expect(pi(("A", TYPE), V0), "forall (A : Type), A")
        self.expect(pi(("A", TYPE), pi(("_", V0), V1)), "forall (A : Type), A -> A")
        self.expect(pi(("x", V0), V1), "a -> a", ("a",))

    def test_functions_and_local_definitions(self):
        self.expect(lam(("x", NAT), ("y", NAT), V1), "fun (x : @nat) => fun (y : @nat) => x")
        self.expect(lam(("x", NAT), ZERO), "fun (x : @nat) => @O")
        self.expect(("let", "x", NAT, ZERO, applied(NEXT, V0)), "let x : @nat := @O in @S x")

    def test_names_of_binders(self):
        self.expect(lam(("_", NAT), V0), "fun (x : @nat) => x")
        self.expect(lam(("fun", NAT), V0), "fun (x : @nat) => x")
        self.expect(lam(("a b", NAT), V0), "fun (x : @nat) => x")
        self.expect(lam(("", NAT), V0), "fun (x : @nat) => x")
        self.expect(lam(("y" * 41, NAT), V0), "fun (x : @nat) => x")
        self.expect(lam(("y" * 40, NAT), V0), f"fun ({'y' * 40} : @nat) => {'y' * 40}")
        self.expect(lam(("x", NAT), ("x", NAT), V1), "fun (x : @nat) => fun (x' : @nat) => x")
        self.expect(
            lam(("_", NAT), ("x", NAT), ("_", NAT), V1), "fun (x : @nat) => fun (x' : @nat) => fun (x'' : @nat) => x'"
        )
        self.expect(lam(("nat", NAT), V0), "fun (nat' : @nat) => nat'")
        self.expect(applied(lam(("O", NAT), V0), ZERO), "(fun (O' : @nat) => O') @O")
        self.expect(lam(("O", NAT), V0), "fun (O : @nat) => O")
        self.expect(lam(("a", NAT), applied(V0, V1)), "fun (a' : @nat) => a' a", ("a",))
        self.expect(pi(("x", NAT), pi(("x", NAT), applied(EQ, V0))), "@nat -> forall (x : @nat), @eq x")
        self.expect(("let", "x", NAT, ZERO, lam(("x", NAT), V1)), "let x : @nat := @O in fun (x' : @nat) => x")

    def test_names_in_two_parts(self):
        self.expect(applied(lam(("x", NAT), V0), lam(("x", NAT), V0)), "(fun (x : @nat) => x) (fun (x : @nat) => x)")


class TestDeclarations(unittest.TestCase):
    def test_texts(self):
        for declaration, told in (
            (("axiom", "a", NAT), "axiom a : @nat;"),
            (("def", "a", pi(("x", NAT), NAT), NEXT), "def a : @nat -> @nat := @S;"),
            (
                ("data", "nat", (), (), 1, (("O", (), ()), ("S", (("n", NAT),), ()))),
                "data nat : Type | O | S (n : @nat) end;",
            ),
            (("data", "false", (), (), 0, ()), "data false : Prop end;"),
            (
                (
                    "data",
                    "list",
                    (("A", TYPE),),
                    (),
                    2,
                    (("nil", (), ()), ("cons", (("a", V0), ("l", applied(LIST, V1))), ())),
                ),
                "data list (A : Type) : Type 1 | nil | cons (a : A) (l : @list A) end;",
            ),
            (
                ("data", "eq", (("A", TYPE), ("a", V0)), (("b", V1),), 0, (("refl", (), (V0,)),)),
                "data eq (A : Type) (a : A) : A -> Prop | refl : @eq A a a end;",
            ),
            (
                (
                    "data",
                    "d",
                    (("_", NAT),),
                    (("k", NAT), ("l", applied(EQ, V0))),
                    1,
                    (("c", (("_", NAT),), (V0, V1)),),
                ),
                "data d (x : @nat) : forall (k : @nat), (@eq k) -> Type | c (x' : @nat) : @d x x' x end;",
            ),
        ):
            self.assertEqual(declaration_text(declaration), told)

    def test_files(self):
        self.assertEqual(file_text((("axiom", "a", NAT), ("axiom", "b", NAT))), "axiom a : @nat;\naxiom b : @nat;\n")
        self.assertEqual(file_text(()), "")

    def test_read_back(self):
        for rows in (ROWS, SIGNATURE.shown()):
            found = world_of(file_text(rows)).signature.shown()
            self.assertEqual(len(found), len(rows))
            for one, other in zip(found, rows):
                self.assertTrue(alike(one, other), (one, other))
            self.assertEqual(check_all(found).shown(), found)
            self.assertEqual(file_text(found), file_text(rows))

    def test_one_line_each(self):
        for row in ROWS:
            self.assertNotIn("\n", declaration_text(row))
            self.assertTrue(declaration_text(row).endswith(";"))


def alike(one, other):
    """Return True if two declarations are the same but for binders' names."""
    if one[0] != "data":
        return one[:2] == other[:2] and all(same(part, opposite) for part, opposite in zip(one[2:], other[2:]))
    if (one[1], one[4], len(one[5])) != (other[1], other[4], len(other[5])):
        return False
    pairs = [(one[2], other[2]), (one[3], other[3])]
    for row, opposite in zip(one[5], other[5]):
        if row[0] != opposite[0] or len(row[2]) != len(opposite[2]):
            return False
        pairs.append((row[1], opposite[1]))
        if not all(same(target, against) for target, against in zip(row[2], opposite[2])):
            return False
    return all(
        len(rows) == len(others) and all(same(kind, against) for (_, kind), (_, against) in zip(rows, others))
        for rows, others in pairs
    )


class TestReadBack(unittest.TestCase):
    def read(self, term):
        """Return the term of a term's text in the stock."""
        return STOCK.term_of(term_text(term))[0]

    def test_drawn_terms(self):
        drawer = Drawer(random.Random(21))
        names = ("x", "x'", "_", "fun", "nat", "O", "S", "plus", "A", "bool", "1", "Prop", "eq")
        for _ in range(400):
            term = drawer.term(drawer.kind(2), (), drawer.chance.randrange(1, 9))
            term = renamed(term, drawer.chance, names)
            self.assertTrue(same(self.read(term), term), term_text(term))

    def test_every_form_with_clashing_names(self):
        for term in (
            lam(("x", NAT), ("x", NAT), ("x", NAT), applied(PLUS, V0, applied(PLUS, V1, V2))),
            pi(("nat", NAT), applied(EQ, NAT, V0, V0)),
            lam(("plus", NAT), applied(PLUS, V0, V0)),
            pi(("A", TYPE), ("A", V0), applied(EQ, V1, V0, V0)),
            ("let", "O", NAT, ZERO, applied(PLUS, V0, ZERO)),
            lam(("A", ("sort", 3)), V0),
            applied(REC, lam(("_", NAT), BOOL)),
            num(59),
            pi(("P", pi(("x", NAT), PROP)), ("x", NAT), ("_", ("app", V1, V0)), ("app", V2, V1)),
        ):
            self.assertTrue(same(self.read(term), term), term_text(term))

    def test_sixty_deep(self):
        deep, kinds, values = ZERO, NAT, V0
        for number in range(60):
            deep = ("lam", "x", NAT, deep)
            kinds = ("pi", "x", NAT, kinds)
            values = (
                "let",
                "x",
                ("pi", "y", NAT, NAT) if number > 1 else NAT,
                lam(("x", NAT), V0) if number > 1 else ZERO,
                values if number else V0,
            )
        for term in (deep, kinds, values):
            self.assertTrue(same(self.read(term), term))

    def test_after_implicit_arguments_were_declared(self):
        world = world_of(
            "data list {A : Type} : Type | nil | cons (a : A) (l : list A) end; data nat : Type | O | S (n : nat) end;"
        )
        term, _ = world.term_of("cons 1 nil")
        self.assertEqual(term_text(term), "@cons @nat (@S @O) (@nil @nat)")
        self.assertEqual(world.term_of(term_text(term))[0], term)


def renamed(term, chance, names):
    """Return a term with drawn names of binders."""
    if term[0] in ("pi", "lam"):
        return (term[0], chance.choice(names), renamed(term[2], chance, names), renamed(term[3], chance, names))
    if term[0] == "let":
        return (term[0], chance.choice(names)) + tuple(renamed(part, chance, names) for part in term[2:])
    if term[0] == "app":
        return ("app", renamed(term[1], chance, names), renamed(term[2], chance, names))
    return term


if __name__ == "__main__":
    unittest.main()
