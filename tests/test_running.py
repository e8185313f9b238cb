"""Programs that are run: against normal terms, what is asked for and how often, and the bounds."""

import inspect
import random
import unittest

from kernelstack import running
from kernelstack.errors import KindFault, NameFault, WorkFault
from kernelstack.running import Closed, Later, Made, Runner
from kernelstack.terms import spine
from kernelstack.values import Reckoner
from kernelstack.world import world_of
from drawn import Drawer
from samples import NAT, NEXT, PROP, TYPE, V0, V1, ZERO, applied
from shallow import within
from stock import BOOL, SIGNATURE as STOCK
from stock import lam, num

WORLD = world_of("""
data nat : Type | O | S (n : nat) end;
data bool : Type | true | false_b end;
data list {A : Type} : Type | nil | cons (x : A) (l : list A) end;
data pair {A B : Type} : Type | mk (a : A) (b : B) end;
data tree : Type | leaf | node (l : tree) (n : nat) (r : tree) end;
data ord : Type | zero | limit (f : nat -> ord) end;
data vec (A : Type) : nat -> Type | vnil : vec A O | vcons (n : nat) (a : A) (v : vec A n) : vec A (S n) end;
data box : Type 1 | wrap (A : Type) (a : A) end;
data eq {A : Type} (a : A) : A -> Prop | refl : eq A a a end;
axiom lost : nat; axiom away : nat -> nat; axiom p : Prop; axiom q : p; axiom place : Type;
def add (a b : nat) : nat := rec[nat 1] (fun x => nat) b (fun n h => S h) a;
def mul (a b : nat) : nat := rec[nat 1] (fun x => nat) O (fun n h => add b h) a;
def pow (a b : nat) : nat := rec[nat 1] (fun x => nat) 1 (fun n h => mul a h) b;
def pred (a : nat) : nat := rec[nat 1] (fun x => nat) O (fun n h => n) a;
def sub (a b : nat) : nat := rec[nat 1] (fun x => nat) a (fun n h => pred h) b;
def sum (l : list nat) : nat := rec[list 1] nat (fun x => nat) O (fun x l h => add x h) l;
def join {A : Type} (l m : list A) : list A := rec[list 1] A (fun x => list A) m (fun x l h => cons x h) l;
def weight (t : tree) : nat := rec[tree 1] (fun x => nat) O (fun l n r h g => add n (add h g)) t;
def mirror (t : tree) : tree := rec[tree 1] (fun x => tree) leaf (fun l n r h g => node g n h) t;
def deep (o : ord) : nat := rec[ord 1] (fun x => nat) O (fun f h => S (h 2)) o;
def long (A : Type) (n : nat) (v : vec A n) : nat := rec[vec 1] A (fun n v => nat) O (fun n a v h => S h) n v;
def first {A B : Type} (x : pair A B) : A := rec[pair 1] A B (fun x => A) (fun a b => a) x;
def both {A : Type} (a : A) : pair A A := mk a a;
def forty : nat := mul 8 5;
def choose (b : bool) (x y : nat) : nat := rec[bool 1] (fun x => nat) x y b;
def count (a b : nat) : nat := rec[nat 1] (fun x => nat -> nat) (fun c => c) (fun n h c => h (S c)) a b;
""")


def run(text, most=50000):
    """Return what a text's term gives."""
    return Runner(WORLD.signature, most).run(WORLD.term_of(text)[0])


def steps_of(text):
    """Return how many steps a text's term takes."""
    one = Runner(WORLD.signature)
    one.run(WORLD.term_of(text)[0])
    return one.steps


def number(many):
    """Return a number as it is shown."""
    found = ("O",)
    for _ in range(many):
        found = ("S", found)
    return found


def shown(signature, term):
    """Return a normal term as it is shown."""
    head, arguments = spine(term)
    if head[0] in ("sort", "pi") or (head[0] == "const" and head[1] in signature.data):
        return None
    owner = signature.made_by(head[1]) if head[0] == "const" else None
    if owner is None:
        return "function"
    data, place = owner
    many = len(data.params)
    if len(arguments) < many + len(data.constructors[place][1]):
        return "function"
    return (head[1],) + tuple(shown(signature, one) for one in arguments[many:])


class TestRunning(unittest.TestCase):
    def test_interface(self):
        for name, told in (("Later", "(term, row)"), ("Made", "(word, name, arguments, many)"),
                           ("Closed", "(body, row)")):
            self.assertEqual(str(inspect.signature(getattr(running, name))), told)
        self.assertEqual(str(inspect.signature(Runner)), "(signature, most=50000)")
        for name, told in (("count", "(self)"), ("shown", "(self, value)"), ("run", "(self, term)")):
            self.assertEqual(str(inspect.signature(vars(Runner)[name])), told)
        one = Runner(WORLD.signature)
        self.assertEqual((one.signature, one.steps), (WORLD.signature, 0))
        later = Later(ZERO, ())
        self.assertEqual((later.term, later.around, later.known), (ZERO, (), None))
        self.assertEqual((Made("made", "S", (), 1).name, Made("made", "S", (), 1).many), ("S", 1))
        self.assertEqual(Closed(V0, (later,)).around, (later,))
        one.count()
        self.assertEqual(one.steps, 1)
        one = Runner(WORLD.signature, 1)
        one.count()
        with self.assertRaises(WorkFault):
            one.count()

    def test_shown_values(self):
        one = Runner(WORLD.signature)
        self.assertEqual(one.shown(Made("made", "O", (), 0)), ("O",))
        self.assertEqual(one.shown(Made("made", "S", (Later(ZERO, ()),), 1)), ("S", ("O",)))
        self.assertEqual(one.shown(Made("made", "S", (), 1)), "function")
        self.assertEqual(one.shown(Closed(V0, ())), "function")
        self.assertIsNone(one.shown(None))

    def test_numbers(self):
        for text, told in (("O", 0), ("3", 3), ("40", 40), ("add 2 3", 5), ("add 40 40", 80), ("mul 6 6", 36),
                           ("pow 2 5", 32), ("sub 40 40", 0), ("sub 40 3", 37), ("mul 40 0", 0), ("mul 40 1", 40),
                           ("forty", 40), ("pred O", 0), ("pow 1 40", 1), ("mul 20 (mul 20 0)", 0), ("count 40 O", 40)):
            self.assertEqual(run(text), number(told), text)

    def test_sums_of_forty(self):
        left = right = ZERO
        for _ in range(40):
            left = applied(("const", "add"), left, num(1))
            right = applied(("const", "add"), num(1), right)
        for term in (left, right):
            self.assertEqual(Runner(WORLD.signature).run(term), number(40))
        rows = applied(("const", "nil"), NAT)
        for place in range(40):
            rows = applied(("const", "cons"), NAT, num(place % 3), rows)
        self.assertEqual(Runner(WORLD.signature).run(applied(("const", "sum"), rows)), number(39))

    def test_other_data(self):
        for text, told in (
            ("true", ("true",)),
            ("cons 1 (@nil nat)", ("cons", number(1), ("nil",))),
            ("sum (cons 3 (cons 4 (cons 5 (@nil nat))))", number(12)),
            ("join (cons 1 (@nil nat)) (cons 2 (@nil nat))", ("cons", number(1), ("cons", number(2), ("nil",)))),
            ("node leaf 2 leaf", ("node", ("leaf",), number(2), ("leaf",))),
            ("weight (node (node leaf 1 leaf) 2 (node leaf 3 leaf))", number(6)),
            ("mirror (node (node leaf 1 leaf) 2 leaf)", ("node", ("leaf",), number(2), ("node", ("leaf",), number(1),
                                                                                         ("leaf",)))),
            ("mk 1 true", ("mk", number(1), ("true",))),
            ("first (mk 1 true)", number(1)),
            ("deep (limit (fun x => limit (fun y => zero)))", number(2)),
            ("vcons nat O 5 (vnil nat)", ("vcons", number(0), number(5), ("vnil",))),
            ("long nat 2 (vcons nat 1 5 (vcons nat O 6 (vnil nat)))", number(2)),
            ("limit (fun x => zero)", ("limit", "function")),
            ("wrap nat 1", ("wrap", None, number(1))),
            ("wrap (nat -> nat) S", ("wrap", None, "function")),
            ("refl 1", ("refl",)),
        ):
            self.assertEqual(run(text), told, text)

    def test_functions(self):
        for text in ("fun (x : nat) => x", "S", "add", "add 1", "add lost", "fun (x : nat) => lost", "@cons",
                     "@cons nat", "@cons nat 1", "rec[nat 1]", "rec[nat 1] (fun x => nat)",
                     "rec[nat 1] (fun x => nat) lost", "let x : nat := 1 in fun (y : nat) => x", "@nil",
                     "rec[nat 1] (fun x => nat) O (fun n h => S h)", "@mk nat nat 1"):
            self.assertEqual(run(text), "function", text)

    def test_kinds(self):
        for text in ("Prop", "Type", "Type 3", "nat", "@list", "list nat", "vec", "vec nat", "vec nat 2", "nat -> nat",
                     "forall (n : nat), vec nat n", "forall (P : Prop), P", "(fun (A : Type) => A) nat", "eq nat lost",
                     "eq nat lost lost", "let A : Type := nat in A", "box"):
            self.assertIsNone(run(text), text)

    def test_axioms(self):
        for text in ("lost", "away 1", "add 1 lost", "add lost 1", "S lost", "q", "p", "place", "first (mk lost 1)", "wrap nat lost",
                     "rec[nat 1] (fun x => nat) 1 (fun n h => h) lost", "cons lost (@nil nat)", "(fun (x : nat) => x) lost"):
            with self.assertRaises(KindFault, msg=text):
                run(text)
        for term in (("const", "nowhere"), applied(("const", "nowhere"), ZERO), applied(NEXT, ("const", "nowhere")),
                     applied(("rec", "nowhere", 1), ZERO)):
            with self.assertRaises(NameFault):
                Runner(WORLD.signature).run(term)
        for term in (V0, applied(NEXT, V0), lam(("x", NAT), V1), applied(lam(("x", NAT), V1), ZERO)):
            one = Runner(WORLD.signature)
            if term == lam(("x", NAT), V1):
                self.assertEqual(one.run(term), "function")
                continue
            with self.assertRaises(KindFault):
                one.run(term)

    def test_what_is_not_needed_is_not_asked_for(self):
        for text, told in (
            ("(fun (x : nat) => O) lost", 0),
            ("let x : nat := lost in 3", 3),
            ("choose true 1 lost", 1),
            ("choose false_b lost 2", 2),
            ("first (mk 1 lost)", 1),
            ("pred (S (add 1 1))", 2),
            ("mul O lost", 0),
            ("rec[nat 1] (fun x => nat) 7 (fun n h => away h) O", 7),
            ("rec[nat 1] (fun x => nat) lost (fun n h => n) 5", 4),
            ("sum (@nil nat)", 0),
            ("first (both 3)", 3),
        ):
            self.assertEqual(run(text), number(told), text)
        twice = lam(("x", NAT), applied(V0, V0))
        endless = applied(twice, twice)
        for term, told in ((applied(lam(("x", NAT), ZERO), endless), 0), (("let", "x", NAT, endless, num(2)), 2),
                           (applied(("const", "choose"), ("const", "true"), num(1), endless), 1)):
            self.assertEqual(Runner(WORLD.signature).run(term), number(told))
        with self.assertRaises(WorkFault):
            Runner(WORLD.signature).run(endless)

    def test_each_thing_is_asked_for_once(self):
        once = steps_of("let x : nat := sub 40 40 in x")
        for text in ("let x : nat := sub 40 40 in add x x", "(fun (x : nat) => add x (add x x)) (sub 40 40)",
                     "first (both (add (sub 40 40) O))", "(fun (f : nat -> nat) => f (f O)) (fun (y : nat) => y)"):
            self.assertLess(steps_of(text), once + 150, text)
        self.assertGreater(steps_of("add (sub 40 40) (sub 40 40)"), 2 * once - 50)
        # A definition's value is reckoned once, too.
        self.assertLess(steps_of("add forty forty"), steps_of("add (mul 8 5) (mul 8 5)") - 200)
        # Shared values that double from level to level are shown one by one, but reckoned once.
        text = "let x : nat := sub 30 30 in " + "".join([f"let y{place} : nat := add x x in " for place in range(3)])
        self.assertLess(steps_of(text + "add y0 (add y1 y2)"), steps_of("sub 30 30") + 200)

    def test_the_bound_of_steps(self):
        for text in ("3", "add 20 20", "mul 5 5", "fun (x : nat) => x", "nat", "sum (cons 1 (@nil nat))"):
            many = steps_of(text)
            self.assertEqual(run(text, many), run(text))
            for most in (many - 1, many // 2, 0):
                with self.assertRaises(WorkFault):
                    run(text, most)
        twice = lam(("x", NAT), applied(V0, V0))
        one = Runner(WORLD.signature)
        with self.assertRaises(WorkFault):
            one.run(applied(twice, twice))
        self.assertEqual(one.steps, 0)
        one = Runner(WORLD.signature, 1000000)
        with self.assertRaises(WorkFault):
            one.run(applied(twice, twice))
        tree = ("const", "leaf")
        for _ in range(20):
            tree = applied(lam(("x", ("const", "tree")), applied(("const", "node"), V0, ZERO, V0)), tree)
        with self.assertRaises(WorkFault):
            Runner(WORLD.signature).run(tree)

    def test_refused_runs_change_nothing(self):
        one = Runner(WORLD.signature, 300)
        self.assertEqual(one.run(WORLD.term_of("add 4 9")[0]), number(13))
        steps = one.steps
        self.assertGreater(steps, 20)
        for text, fault in (("mul 20 20", WorkFault), ("add 2 lost", KindFault), ("add (sub 3 1) lost", KindFault)):
            with self.assertRaises(fault):
                one.run(WORLD.term_of(text)[0])
            self.assertEqual(one.steps, steps)
        with self.assertRaises(NameFault):
            one.run(applied(NEXT, ("const", "nothing")))
        self.assertEqual(one.steps, steps)
        self.assertEqual(one.run(ZERO), ("O",))
        self.assertGreater(one.steps, steps)

    def test_what_became_known_in_a_refused_run_is_unknown_again(self):
        one = Runner(WORLD.signature)
        inner = Later(ZERO, ())
        later = Later(applied(NEXT, applied(("const", "add"), V0, ("const", "lost"))), (inner,))
        with self.assertRaises(KindFault):
            one.shown(later)
        self.assertEqual((later.known, inner.known, one.steps), (None, None, 0))
        # What was known before stays so.
        self.assertEqual(one.shown(inner), ("O",))
        with self.assertRaises(KindFault):
            one.shown(later)
        self.assertIsNone(later.known)
        self.assertEqual(inner.known.name, "O")

    def test_a_step_too_many_is_not_counted(self):
        one = Runner(WORLD.signature, 2)
        one.count()
        one.count()
        for _ in range(3):
            with self.assertRaises(WorkFault):
                one.count()
            self.assertEqual(one.steps, 2)
        with self.assertRaises(WorkFault):
            one.run(ZERO)
        self.assertEqual(one.steps, 2)

    def test_values_within_each_other(self):
        self.assertEqual(Runner(WORLD.signature).run(num(119)), number(119))
        for many in (120, 121, 300, 5000):
            with self.assertRaises(WorkFault):
                Runner(WORLD.signature).run(num(many))
        below = lam(("x", NAT), applied(NEXT, applied(V0, V0)))
        one = Runner(WORLD.signature)
        with self.assertRaises(WorkFault):
            one.run(applied(below, below))
        # The same runner goes on after a fault.
        self.assertEqual(one.run(num(100)), number(100))

    def test_values_that_are_asked_for_take_no_calls(self):
        text = "let x0 : nat := 1 in " + "".join([f"let x{place + 1} : nat := add x{place} 0 in " for place in range(50)])
        term = WORLD.term_of(text + "x50")[0]
        self.assertEqual(within(60, lambda: Runner(WORLD.signature).run(term)), number(1))
        term = WORLD.term_of("sub (sub 55 (sub 54 (sub 53 (sub 52 51)))) 52")[0]
        self.assertEqual(within(100, lambda: Runner(WORLD.signature).run(term)), number(1))
        below = lam(("x", NAT), applied(("const", "pred"), applied(V0, V0)))
        with self.assertRaises(WorkFault):
            within(30, lambda: Runner(WORLD.signature).run(applied(below, below)))

    def test_programs_without_kinds(self):
        for term in (applied(ZERO, ZERO), applied(("rec", "nat", 1), NAT, ZERO, NEXT, NAT),
                     applied(("rec", "nat", 1), NAT, ZERO, NEXT, lam(("x", NAT), V0)),
                     applied(("rec", "nat", 1), NAT, ZERO, NEXT, ("const", "true"))):
            with self.assertRaises(KindFault):
                Runner(WORLD.signature).run(term)
        self.assertIsNone(Runner(WORLD.signature).run(applied(TYPE, ZERO)))
        self.assertIsNone(Runner(WORLD.signature).run(applied(("pi", "x", NAT, PROP), ZERO, ZERO)))

    def test_drawn_terms(self):
        drawer = Drawer(random.Random(131))
        told = 0
        for _ in range(400):
            kind = drawer.chance.choice((NAT, NAT, BOOL, applied(("const", "list"), NAT), drawer.kind(2)))
            term = drawer.term(kind, (), drawer.chance.randrange(1, 8))
            try:
                found = Runner(STOCK).run(term)
            except (KindFault, WorkFault):
                continue
            self.assertEqual(found, shown(STOCK, Reckoner(STOCK).normal(term)), term)
            told += 1
        self.assertGreater(told, 150)


if __name__ == "__main__":
    unittest.main()
