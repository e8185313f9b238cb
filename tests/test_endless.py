"""What has no end is a fault soon, and what the document reckons is none, however much stands around it."""

import unittest

from kernelstack.checker import Checker
from kernelstack.equal import Comparer
from kernelstack.errors import WorkFault
from kernelstack.signature import Signature
from kernelstack.values import Reckoner
from kernelstack.world import world_of
from samples import NAT, PROP, V0, V1, applied

TEXT = """
data nat : Type | O | S (n : nat) end
def add (a b : nat) : nat := rec[nat 1] (fun x => nat) b (fun n h => S h) a;
def mul (a b : nat) : nat := rec[nat 1] (fun x => nat) O (fun n h => add b h) a;
def pow (a b : nat) : nat := rec[nat 1] (fun x => nat) 1 (fun n h => mul a h) b;
def pred (a : nat) : nat := rec[nat 1] (fun x => nat) O (fun n h => n) a;
def sub (a b : nat) : nat := rec[nat 1] (fun x => nat) a (fun n h => pred h) b;
def count (a b : nat) : nat := rec[nat 1] (fun x => nat -> nat) (fun c => c) (fun n h c => h (S c)) a b;
def down (a b : nat) : nat := rec[nat 1] (fun x => nat -> nat) (fun c => c)
  (fun n h c => rec[nat 1] (fun y => nat -> nat) (fun d => h d) (fun m g d => g d) b c) a O;
"""
WORLD = world_of(TEXT)
# So many steps are made in about a hundredth of a second.
SOON = 20000

NUMBERS = (("add 40 40", 80), ("mul 40 0", 0), ("mul 40 1", 40), ("mul 6 6", 36), ("pow 2 5", 32), ("sub 40 40", 0),
           ("sub 40 3", 37), ("mul (mul 40 0) 40", 0), ("pow 1 40", 1), ("add (mul 5 4) (pow 2 4)", 36), ("pow 0 40", 0),
           ("mul 20 (mul 20 0)", 0), ("count 40 40", 80), ("count 40 (count 40 0)", 80), ("sub 40 (count 39 0)", 1),
           ("down 40 40", 0))


def under(body):
    """Return the function of a body."""
    return ("lam", "x", PROP, body)


def twice(one):
    """Return a term applied to itself."""
    return ("app", one, one)


ENDLESS = (
    twice(under(twice(V0))),
    twice(under(applied(V0, V0, V0))),
    twice(under(applied(("lam", "y", PROP, V0), twice(V0)))),
    twice(under(("let", "y", PROP, twice(V0), V0))),
    twice(under(("let", "y", PROP, PROP, twice(V1)))),
    applied(("lam", "f", PROP, twice(under(twice(V0)))), PROP),
    ("lam", "y", PROP, twice(under(twice(V0)))),
    twice(under(applied(("const", "S"), twice(V0)))),
    twice(under(("pi", "y", PROP, twice(V1)))),
    twice(under(applied(("const", "g"), twice(V0), twice(V0)))),
)


class TestEndless(unittest.TestCase):
    def test_normal_terms(self):
        for term in ENDLESS:
            reckoner = Reckoner(Signature())
            with self.subTest(term):
                with self.assertRaises(WorkFault):
                    reckoner.normal(term)
                self.assertLess(reckoner.steps, SOON)

    def test_values_and_equality(self):
        for term in ENDLESS[:6]:
            for call in (lambda one: one.value(term, ()), lambda one: one.equal_terms(term, PROP)):
                reckoner = Comparer(Signature(), 200000)
                with self.subTest(term):
                    with self.assertRaises(WorkFault):
                        call(reckoner)
                    self.assertLess(reckoner.steps, SOON)
        one, other = (twice(under(body)) for body in (("pi", "y", PROP, twice(V1)),
                                                      ("pi", "y", PROP, ("pi", "z", PROP, twice(("var", 2))))))
        reckoner = Comparer(Signature(), 200000)
        with self.assertRaises(WorkFault):
            reckoner.equal_terms(one, other)
        self.assertLess(reckoner.steps, 100000)

    def test_a_reckoner_goes_on_after_a_fault(self):
        reckoner = Reckoner(WORLD.signature)
        for term in ENDLESS[:3]:
            with self.assertRaises(WorkFault):
                reckoner.normal(term)
        self.assertEqual(reckoner.normal(("app", ("lam", "x", PROP, V0), PROP)), PROP)

    def test_a_bound_of_steps_is_held_to(self):
        for text, _ in NUMBERS:
            term, _ = WORLD.term_of(text)
            reckoner = Reckoner(WORLD.signature)
            found = reckoner.normal(term)
            self.assertEqual(Reckoner(WORLD.signature, reckoner.steps).normal(term), found)
            for most in (reckoner.steps - 1, reckoner.steps // 2, 0):
                with self.assertRaises(WorkFault):
                    Reckoner(WORLD.signature, most).normal(term)


class TestNumbers(unittest.TestCase):
    def expect(self, term, told):
        """Test what a term is reckoned to, and that the kernel finds it equal to that number."""
        with self.subTest(told):
            number = ("const", "O")
            for _ in range(told):
                number = ("app", ("const", "S"), number)
            self.assertEqual(Reckoner(WORLD.signature).normal(term), number)
            Reckoner(WORLD.signature).value(term, ())
            self.assertTrue(Comparer(WORLD.signature, 200000).equal_terms(term, number))

    def test_numbers(self):
        for text, told in NUMBERS:
            self.expect(WORLD.term_of(text)[0], told)

    def test_within_sixty_local_definitions(self):
        one = ("app", ("const", "S"), ("const", "O"))
        for text, told in NUMBERS:
            term = WORLD.term_of(text)[0]
            inner, within, after = term, term, V0
            for _ in range(60):
                inner = ("let", "x", NAT, one, inner)
                within = ("let", "x", NAT, within, V0)
                after = ("let", "x", NAT, applied(("const", "add"), ("const", "O"), V0), after)
            for whole in (inner, within, ("let", "x", NAT, term, after)):
                self.expect(whole, told)

    def test_within_sixty_arguments(self):
        one = applied(("const", "add"), ("const", "O"), ("const", "O"))
        for text, told in NUMBERS:
            term = WORLD.term_of(text)[0]
            for number in (0, 30, 59):
                function = ("var", number)
                for _ in range(60):
                    function = ("lam", "x", NAT, function)
                arguments = [one] * (59 - number) + [term] + [one] * number
                self.expect(applied(function, *arguments), told)


class TestClosures(unittest.TestCase):
    def test_what_closures_keep_is_reckoned_once(self):
        # Each function keeps all those before it: as a tree they would be more than could ever be gone through.
        text = "let f0 : nat -> nat := fun n => n in "
        for number in range(1, 55):
            text += f"let f{number} : nat -> nat := fun n => f{number - 1} (S n) in "
        term, _ = WORLD.term_of(text + "fun (n : nat) => f54 n")
        reckoner = Reckoner(WORLD.signature)
        self.assertEqual(reckoner.value(term, ())[0], "lam")
        self.assertLess(reckoner.steps, 1000)
        self.assertEqual(Checker(WORLD.signature).infer(term)[0], "pi")

    def test_what_nothing_asks_for(self):
        # Normal terms and equality do not hang on what a closure keeps.
        term = ("app", ("lam", "x", PROP, ("lam", "y", PROP, V0)), ENDLESS[0])
        self.assertEqual(Reckoner(Signature()).normal(term), ("lam", "y", PROP, V0))
        self.assertTrue(Comparer(Signature(), 1000).equal_terms(term, ("lam", "y", PROP, V0)))
        with self.assertRaises(WorkFault):
            Reckoner(Signature()).value(term, ())

    def test_values(self):
        product = ("pi", "z", PROP, PROP)
        value = ("pi", "z", PROP, (PROP, ()))
        constant = ("lam", "x", ("sort", 1), ("lam", "y", ("sort", 1), V1))
        reckoner = Reckoner(Signature())
        for _ in range(2):
            self.assertEqual(reckoner.value(("app", constant, product), ()),
                             ("lam", "y", ("sort", 1), (V1, (value,))))
        for term in (("let", "x", ("sort", 1), product, ("pi", "y", V0, V1)),
                     ("app", ("lam", "x", ("sort", 1), ("pi", "y", V0, V1)), product)):
            self.assertEqual(reckoner.value(term, ()), ("pi", "y", value, (V1, (value,))))
        inner = reckoner.enter(reckoner.value(("lam", "a", PROP, ("lam", "b", V0, V1)), ())[3], value)
        self.assertEqual(inner, ("lam", "b", value, (V1, (value,))))
        self.assertEqual(reckoner.enter(inner[3], PROP), value)
        stuck = reckoner.value(("app", ("const", "f"), ("app", constant, product)), ())
        self.assertEqual(stuck, ("stuck", ("const", "f"), (("lam", "y", ("sort", 1), (V1, (value,))),)))


if __name__ == "__main__":
    unittest.main()
