import inspect
import unittest

from kernelstack import world as module
from kernelstack.checker import check_all
from kernelstack.errors import DataFault, HoleFault, KindFault, NameFault, StepFault, TermError, TextError, WorkFault
from kernelstack.terms import same
from kernelstack.world import World, closed_context, world_of
from naive_kernel import Naive
from samples import NAT, NEXT, PROP, TYPE, V0, V1, ZERO, applied
from stock import lam, num, pi
from texts import BASE, WORLD, state, world

PLUS, EQ = ("const", "plus"), ("const", "eq")


def naive_accepts(declarations):
    """Raise an error if a naive kernel refuses one of some declarations."""
    naive = Naive()
    for row in declarations:
        naive.add(row)


class Telling(unittest.TestCase):
    def refuse(self, fault, *texts):
        """Raise a failure for a text that is not refused with a fault, or changes something."""
        for text in texts:
            one = world()
            before = state(one)
            with self.assertRaises(fault, msg=text) as caught:
                one.add_text(text)
            self.assertIs(type(caught.exception), fault, text)
            self.assertEqual(state(one), before, text)

    def added(self, text):
        """Return the last declaration of a text that fits, which a naive kernel accepts, too."""
        one = world()
        many = one.add_text(text)
        shown = one.signature.shown()
        self.assertEqual(len(shown), len(WORLD.signature.shown()) + many)
        naive_accepts(shown)
        return shown[-1]


class TestWorld(Telling):
    def test_interface(self):
        for name, told in {
            "copied": "(self)",
            "add_text": "(self, text)",
            "term_of": "(self, text)",
            "kind_text": "(self, text)",
            "value_text": "(self, text)",
        }.items():
            self.assertEqual(str(inspect.signature(vars(World)[name])), told)
        self.assertEqual(str(inspect.signature(closed_context)), "(rows)")
        self.assertEqual(str(inspect.signature(world_of)), "(text)")
        self.assertEqual(module.closed_context.__module__, "kernelstack.world")
        one = World()
        self.assertEqual((one.signature.shown(), one.implicits, one.theorems), ((), {}, []))

    def test_what_is_added(self):
        one = World()
        self.assertEqual(one.add_text(""), 0)
        self.assertEqual(one.add_text("data nat : Type | O | S (n : nat) end; axiom a : nat;"), 2)
        self.assertEqual(
            one.add_text(
                "def f {A : Type} (x : A) (y : nat) : A := x; theorem t : forall (P : Prop), P -> P" " := fun (P : Prop) (p : P) => p;"
            ),
            2,
        )
        self.assertEqual(
            one.signature.shown(),
            (
                ("data", "nat", (), (), 1, (("O", (), ()), ("S", (("n", NAT),), ()))),
                ("axiom", "a", NAT),
                (
                    "def",
                    "f",
                    pi(("A", TYPE), ("x", V0), ("y", NAT), ("var", 2)),
                    lam(("A", TYPE), ("x", V0), ("y", NAT), V1),
                ),
                ("def", "t", pi(("P", PROP), ("_", V0), V1), lam(("P", PROP), ("p", V0), V0)),
            ),
        )
        self.assertEqual(one.implicits, {"nat": 0, "O": 0, "S": 0, "a": 0, "f": 1, "t": 0})
        self.assertEqual(one.theorems, ["t"])

    def test_the_texts_are_good(self):
        naive_accepts(WORLD.signature.shown())
        self.assertEqual(check_all(WORLD.signature.shown()).shown(), WORLD.signature.shown())
        self.assertEqual(WORLD.theorems, ["cong"])
        self.assertEqual(
            {name: many for name, many in WORLD.implicits.items() if many}, {"none": 1, "more": 1, "id": 1}
        )
        self.assertEqual(set(WORLD.implicits), set(WORLD.signature.kinds))
        self.assertEqual(world_of(BASE).signature.shown(), WORLD.signature.shown())

    def test_copies_are_apart(self):
        one = world()
        before = state(one)
        other = one.copied()
        self.assertEqual(state(other), before)
        other.add_text("theorem new {P : Prop} : P -> P := fun (p : P) => p; data unit : Type | tt end;")
        self.assertEqual(state(one), before)
        self.assertEqual(other.implicits["new"], 1)

    def test_implicit_arguments(self):
        one = world()
        one.add_text(
            "axiom f : forall {A : Type}, A -> A;"
            "def g {A : Type} : forall {B : Type} (b : B), A -> A := fun (B : Type) b a => a;"
            "theorem h {P Q : Prop} (p : P) : Q -> P := fun (q : Q) => p; axiom k : nat -> nat;"
            "data pair {A B : Type} : Type | mk {n : nat} (a : A) (b : B) | other (a : A) end;"
        )
        self.assertEqual(
            [one.implicits[name] for name in ("f", "g", "h", "k", "pair", "mk", "other")], [1, 2, 2, 0, 0, 3, 2]
        )
        self.assertTrue(
            same(
                one.term_of("@mk nat bool 2 O true")[0],
                applied(("const", "mk"), NAT, ("const", "bool"), num(2), ZERO, ("const", "true")),
            )
        )
        self.refuse(
            TextError,
            "def new (x : nat) {A : Type} : nat := x;",
            "axiom new : forall (x : nat) {A : Type}, A;",
            "def new (x : nat) : forall {A : Type}, A -> A := fun (A : Type) a => a;",
            "axiom new : nat -> forall {A : Type}, A;",
            "data new (A : Type) {B : Type} : Type end;",
            "data new (A : Type) : Type | mk {n : nat} end;",
            "theorem new (P : Prop) {Q : Prop} : P -> P by intro p, exact p;",
        )

    def test_definitions(self):
        self.assertEqual(self.added("def new : nat := 2;"), ("def", "new", NAT, num(2)))
        self.assertEqual(self.added("def new : ? := 2;"), ("def", "new", NAT, num(2)))
        self.assertTrue(
            same(
                self.added("def new x : eq nat x x := refl ? x;")[3],
                lam(("x", NAT), applied(("const", "refl"), NAT, V0)),
            )
        )
        self.assertTrue(
            same(self.added("def new (f : nat -> ?) : nat := S (f O);")[2], pi(("f", pi(("x", NAT), NAT)), NAT))
        )
        self.assertTrue(
            same(
                self.added("def new : nat -> nat -> nat := fun x y => plus y x;")[3],
                lam(("x", NAT), ("y", NAT), applied(PLUS, V0, V1)),
            )
        )
        self.added("def new : forall (A : Type), A -> A := fun (A : Type) a => a;")
        self.added("def new (n : nat) : eq nat (plus 2 n) (S (S n)) := refl nat (S (S n));")
        self.added("def new : eq nat (times 7 7) (plus 9 40) := refl ? ?;")
        self.refuse(
            KindFault,
            "def new : nat := true;",
            "def new : O := O;",
            "def new (x : O) : nat := O;",
            "def new : Type := Type;",
            "def new : eq nat (plus 2 2) 5 := refl nat 4;",
            "def new (n : nat) : eq nat (plus n 0) n := refl nat n;",
            "def new : nat -> nat := fun (x : bool) => O;",
            "def new : nat := fun x => x;",
            "axiom new : O;",
            "axiom new : Type 11;",
        )
        self.refuse(
            TermError,
            "axiom new : Type 12;",
            "data new (A : Type 12) : Type end;",
            "data new : Type | c (A : rec[nat 13]) end;",
            "def new : nat := let x : Type 12 := O in O;",
            "def new (" + "a " * 130 + ": nat) : nat := O;",
            "def new (" + "a " * 1500 + ": nat) : nat := O;",
            "def new : nat := O" + " O" * 100 + ";",
        )
        self.refuse(DataFault, "data new : Type 12 end;", "data new : Type 11 end;", "data new : nat -> Type 40 end;")
        self.refuse(
            HoleFault,
            "def new : nat := ?;",
            "def new x : nat := O;",
            "axiom new : ?;",
            "axiom new : eq ? ? ?;",
            "def new : ? := ?;",
            "def new : seq ? := none;",
            "axiom new : forall x, nat;",
        )
        self.refuse(
            NameFault,
            "def new : nat := nowhere;",
            "axiom new : nowhere;",
            "def new : nat := new;",
            "axiom nat : Type;",
            "def O : nat := O;",
            "theorem id : forall (P : Prop), P -> P := fun (P : Prop) (p : P) => p;",
            "axiom plus : nat;",
            f"axiom {'x' * 41} : nat;",
            "data bool : Type end;",
            "data new : Type | O end;",
            "data new : Type | plus end;",
        )
        self.added(f"axiom {'x' * 40} : nat;")
        self.refuse(TextError, "def new : nat := 61;", "def new : nat := 1234567;", "def new : nat = 2;", "new")

    def test_theorems(self):
        self.added("theorem new : eq nat (plus 1 1) 2 := refl ? 2;")
        self.added("theorem new (n : nat) : eq nat (plus 1 n) (S n) := refl nat (S n);")
        self.added("theorem new (n : nat) : eq nat (plus 1 n) (S n) by exact refl ? ?;")
        self.refuse(
            KindFault,
            "theorem new : nat := 2;",
            "theorem new : Prop := false;",
            "theorem new : nat by exact O;",
            "theorem new : nat -> nat := S;",
            "theorem new : Type := nat;",
            "theorem new (n : nat) : nat := n;",
            "theorem new : eq nat 1 2 := refl nat 1;",
            "theorem new : O := O;",
        )
        self.refuse(
            StepFault,
            "theorem new : eq nat 1 2 by exact refl nat 1;",
            "theorem new (P : Prop) : P by decide;",
            "theorem new (P : Prop) : P -> P by intro p;",
            "theorem new : false by exact ?;",
            "theorem new (P : Prop) : P -> P by intro p, exact p, exact p;",
        )
        self.refuse(
            HoleFault, "theorem new : eq ? ? ? by exact refl nat O;", "theorem new x : false -> false by decide;"
        )
        self.assertEqual(self.added("theorem new : eq nat O ? := refl nat O;")[2], applied(EQ, NAT, ZERO, ZERO))

    def test_those_before_a_refused_one_stay(self):
        one = world()
        many = len(one.signature.shown())
        with self.assertRaises(KindFault):
            one.add_text("axiom new : nat; def new2 : nat := new; def new3 : nat := true; axiom new4 : nat;")
        self.assertEqual([row[1] for row in one.signature.shown()[many:]], ["new", "new2"])
        self.assertIn("new2", one.implicits)
        self.assertNotIn("new3", one.implicits)
        with self.assertRaises(StepFault):
            one.add_text("theorem new5 (P : Prop) : P -> P by intro p, exact p; theorem new6 : false by decide;")
        self.assertEqual(one.theorems[-1], "new5")
        before = state(one)
        for text in (
            "axiom new7 : nat; axiom new8 nat;",
            "axiom new7 : nat; axiom",
            "axiom new7 : nat; def x : nat := (O;",
            "axiom new7 : nat; #",
            "axiom new7 : nat; def x : nat := 1234567;",
        ):
            with self.assertRaises(TextError):
                one.add_text(text)
            self.assertEqual(state(one), before)

    def test_data(self):
        self.assertEqual(
            self.added("data new : Type | one | two (x : nat) (y : new) end;"),
            ("data", "new", (), (), 1, (("one", (), ()), ("two", (("x", NAT), ("y", ("const", "new"))), ()))),
        )
        self.assertEqual(
            self.added("data new (A : Type) (a : A) : A -> Prop | same : new A a a end"),
            ("data", "new", (("A", TYPE), ("a", V0)), (("_", V1),), 0, (("same", (), (V0,)),)),
        )
        self.assertEqual(
            self.added("data new {A : Type} : Type | c (f : nat -> new A) : new A end;")[5][0][1][0][1],
            pi(("_", NAT), applied(("const", "new"), V1)),
        )
        self.assertEqual(
            self.added("data new : forall (n : nat), eq nat n n -> Type | c (n : nat) : new n (refl ? ?) end;")[5],
            (("c", (("n", NAT),), (V0, applied(("const", "refl"), NAT, V0))),),
        )
        self.added("data new (A : Type) : Type | c x (y : eq A x x) end;")
        self.added("data new : Type 3 | c (A : Type) (B : Type 2) end;")
        self.refuse(
            DataFault,
            "data new : nat end;",
            "data new : Type -> nat end;",
            "data new : Type | new end;",
            "data new : Type | c | c end;",
            "data new : Type | c (f : new -> nat) end;",
            "data new : nat -> Type | c end;",
            "data new : nat -> Type | c : nat end;",
            "data new (A : Type) : Type | c (x : new nat) end;",
            "data new (A : Type) : Type | c : new nat end;",
            "data new (A B : Type) : Type | c : new B A end;",
            "data new : Type 11 end;",
            "data new : Type | c (l : list new) end;",
            "data new : Type " + " ".join(f"| c{number}" for number in range(21)) + " end;",
        )
        self.refuse(
            KindFault,
            "data new : Type | c (A : Type) end;",
            "data new : Type | c (x : O) end;",
            "data new : O end;",
            "data new (A : O) : Type end;",
            "data new : Type | c : O end;",
            "data new : nat -> Type | c : new true end;",
            "data new : nat -> Type | c : new end;",
            "data new : Type | c (x : new O) end;",
        )
        self.refuse(
            NameFault,
            "data new : Type | c (x : nowhere) end;",
            "data new : Type | c (x : eq nat d O) | d end;",
            "data new : Type | c | O end;",
            "data nat : Type end;",
        )
        self.refuse(
            HoleFault,
            "data new : Type | c x end;",
            "data new x : Type end;",
            "data new : Type | c (x : ?) end;",
            "data new : ? -> Type end;",
        )

    def test_terms(self):
        one = world()
        before = state(one)
        term, kind = one.term_of("fun (x : nat) => plus x 1")
        self.assertTrue(same(term, lam(("x", NAT), applied(PLUS, V0, num(1)))))
        self.assertTrue(same(kind, pi(("x", NAT), NAT)))
        self.assertEqual(one.kind_text("more O"), "(@seq @nat) -> @seq @nat")
        self.assertEqual(one.kind_text("@id"), "forall (A : Type), A -> A")
        self.assertEqual(one.kind_text("refl nat (plus 1 1)"), "@eq @nat (@S (@S @O)) (@S (@S @O))")
        self.assertEqual(one.value_text("plus 1 (times 2 1)"), "@S (@S (@S @O))")
        self.assertEqual(one.value_text("fun x => plus 1 x"), "fun (x : @nat) => @S x")
        self.assertEqual(one.value_text("Type 2"), "Type 2")
        for fault, text in (
            (KindFault, "S true"),
            (HoleFault, "none"),
            (NameFault, "x"),
            (TextError, "S ("),
            (TextError, "S 61"),
            (TextError, "O;"),
            (KindFault, "Type 11"),
            (TermError, "fun (" + " ".join(f"x{number}" for number in range(110)) + " : nat) => O"),
        ):
            for attempt in (one.term_of, one.kind_text, one.value_text):
                with self.assertRaises(fault):
                    attempt(text)
        with self.assertRaises(WorkFault):
            one.value_text("times 40 40")
        self.assertEqual(state(one), before)

    def test_contexts(self):
        self.assertEqual(closed_context([("A", TYPE), ("x", V0)]), (("x", V0, None), ("A", TYPE, None)))
        self.assertEqual(closed_context(()), ())


if __name__ == "__main__":
    unittest.main()
