"""What the kernel adds, a naive kernel accepts, and the other way round, on drawn terms and declarations."""

import random
import unittest

from kernelstack.checker import Checker
from kernelstack.equal import Comparer
from kernelstack.errors import DataFault, KernelError, KindFault, NameFault
from kernelstack.terms import lifted, same
from kernelstack.values import Reckoner
from drawn import Drawer
from naive_kernel import Refused, TooMuch, accepts
from samples import NAT, NEXT, PROP, TYPE, V0, V1, ZERO, applied
from stock import ROWS, SIGNATURE, naive_stock, stock

NAIVE = naive_stock()


def kernel_accepts(declaration):
    """Return whether the kernel adds a declaration to the stock, and test that nothing changes when it does not."""
    signature = stock()
    before = (
        dict(signature.kinds),
        dict(signature.bodies),
        dict(signature.data),
        dict(signature.owners),
        list(signature.order),
    )
    try:
        Checker(signature).add(declaration)
    except KernelError as fault:
        after = (signature.kinds, signature.bodies, signature.data, signature.owners, signature.order)
        assert before == after
        assert isinstance(fault, (KindFault, NameFault)), repr(fault)
        return False
    assert signature.order == before[4] + [declaration]
    return True


class TestDrawn(unittest.TestCase):
    def test_definitions(self):
        drawer = Drawer(random.Random(7))
        told = {True: 0, False: 0}
        for number in range(700):
            declaration = drawer.declaration("fresh", drawer.chance.randrange(1, 9))
            if number % 3 == 0:
                declaration = declaration[:3] + (drawer.exchanged(declaration[3]),)
            if number % 3 == 1:
                declaration = declaration[:2] + (drawer.exchanged(declaration[2]),) + declaration[3:]
            answer = accepts(NAIVE, declaration)
            if answer is not None:
                self.assertIs(kernel_accepts(declaration), answer, declaration)
                told[answer] += 1
        self.assertGreater(min(told.values()), 150, told)

    def test_declarations_of_the_stock_with_a_part_exchanged(self):
        drawer = Drawer(random.Random(8))
        told = {True: 0, False: 0}
        for row in ROWS:
            if row[0] != "def":
                continue
            for number in range(40):
                at = 3 if number % 4 else 2
                declaration = ("def", "fresh") + row[2:at] + (drawer.exchanged(row[at]),) + row[at + 1 :]
                answer = accepts(NAIVE, declaration)
                if answer is not None:
                    self.assertIs(kernel_accepts(declaration), answer, declaration)
                    told[answer] += 1
        self.assertGreater(min(told.values()), 40, told)

    def test_kinds(self):
        drawer = Drawer(random.Random(9))
        for number in range(400):
            kind = drawer.kind(2)
            term = drawer.term(kind, (), drawer.chance.randrange(1, 9))
            checker = Checker(SIGNATURE)
            self.assertTrue(same(checker.kind_term(term), NAIVE.normal(kind)), term)
            term = drawer.exchanged(term)
            try:
                NAIVE.steps = 0
                told = NAIVE.kind_of(term, ())
            except TooMuch:
                continue
            except Refused:
                with self.assertRaises((KindFault, NameFault)):
                    Checker(SIGNATURE).kind_term(term)
                continue
            self.assertTrue(same(Checker(SIGNATURE).kind_term(term), told), term)

    def test_normal_terms(self):
        drawer = Drawer(random.Random(10))
        for _ in range(400):
            context = tuple(drawer.kind(2) for _ in range(2))
            kind = drawer.kind(2)
            term = drawer.term(kind, context, drawer.chance.randrange(1, 9))
            NAIVE.steps = 0
            try:
                told = NAIVE.normal(term)
            except (TooMuch, RecursionError):
                continue
            found = Reckoner(SIGNATURE).normal(term, 2)
            self.assertTrue(same(found, told), term)
            self.assertTrue(same(Reckoner(SIGNATURE).normal(found, 2), found), term)

    def test_equal_terms(self):
        drawer = Drawer(random.Random(11))
        told = {True: 0, False: 0}
        for number in range(600):
            kind = NAT if number % 2 else drawer.kind(2)
            one = drawer.term(kind, (NAT, NAT), 6)
            other = drawer.exchanged(one) if number % 4 > 1 else drawer.term(kind, (NAT, NAT), 2)
            try:
                NAIVE.steps = 0
                NAIVE.kind_of(other, (NAT, NAT))
                answer = same(NAIVE.normal(one), NAIVE.normal(other))
            except (Refused, TooMuch, RecursionError):
                continue
            for first, second in ((one, other), (other, one)):
                self.assertIs(Comparer(SIGNATURE, 200000).equal_terms(first, second, 2), answer, (first, second))
            told[answer] += 1
        self.assertGreater(min(told.values()), 40, told)


class TestDrawnData(unittest.TestCase):
    def drawn(self, drawer):
        """Return a declaration of data that may be good, with terms and names that fit often."""
        chance = drawer.chance
        params = tuple(chance.choice((("A", TYPE), ("A", NAT), ("A", PROP))) for _ in range(chance.randrange(2)))
        indices = tuple(("k", NAT) for _ in range(chance.randrange(2)))
        constructors = []
        for number in range(chance.randrange(4)):
            fields = []
            for place in range(chance.randrange(4)):
                fields.append((f"f{place}", self.field(chance, params, indices, place)))
            targets = tuple(
                chance.choice((ZERO, applied(NEXT, ZERO), V0, TYPE, ("const", "new")))
                if chance.random() < 0.2
                else ZERO
                for _ in indices
            )
            if chance.random() < 0.05:
                targets += (ZERO,)
            constructors.append(
                (
                    chance.choice(("a", "b", "c", "d", "e", "new", "O")) if chance.random() < 0.1 else f"made{number}",
                    tuple(fields),
                    targets,
                )
            )
        return ("data", "new", params, indices, chance.choice((0, 1, 1, 2)), tuple(constructors))

    def field(self, chance, params, indices, place):
        """Return the kind of a field."""
        own = ("const", "new")
        for number in range(len(params)):
            own = ("app", own, ("var", place + len(params) - 1 - number))
        bare = own
        for _ in indices:
            own = ("app", own, chance.choice((ZERO, V0, applied(NEXT, ZERO))) if chance.random() < 0.2 else ZERO)
        ways = [own, own, own, NAT, NAT, applied(("const", "list"), NAT), ("pi", "x", NAT, lifted(own, 1))]
        if chance.random() < 0.25:
            ways += [
                bare,
                ("pi", "x", own, NAT),
                ("pi", "x", own, lifted(own, 1)),
                applied(("const", "list"), own),
                TYPE,
                PROP,
                V0,
                V1,
                ("const", "new"),
                applied(NAT, ZERO),
                ("pi", "x", NAT, own),
                applied(("const", "eq"), NAT, ZERO, ZERO),
                ("pi", "x", TYPE, V0),
                ("app", own, ZERO),
            ]
        return chance.choice(ways)

    def test_data(self):
        drawer = Drawer(random.Random(12))
        told = {True: 0, False: 0}
        for _ in range(1500):
            declaration = self.drawn(drawer)
            answer = accepts(NAIVE, declaration)
            signature = stock()
            before = list(signature.order), dict(signature.kinds), dict(signature.data), dict(signature.owners)
            try:
                Checker(signature).add(declaration)
                found = True
            except (KindFault, NameFault, DataFault):
                found = False
                self.assertEqual((signature.order, signature.kinds, signature.data, signature.owners), before)
            self.assertIs(found, answer, declaration)
            told[answer] += 1
        self.assertGreater(min(told.values()), 300, told)


if __name__ == "__main__":
    unittest.main()
