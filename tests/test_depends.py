"""What declarations need, and on which axioms they rest: drawn declarations against what the tests reckon."""

import inspect
import random
import unittest

from kernelstack import depends
from kernelstack.checker import check_all
from kernelstack.depends import all_needs, axioms_of, cut_down, needs, unused
from kernelstack.errors import KernelError, NameFault
from samples import NAT, PROP, TYPE, V0, V1, ZERO, applied
from stock import ROWS, SIGNATURE, arrow, lam, pi


def all_names(value):
    """Return the names of constants and of recursors' data anywhere in a tuple."""
    if not isinstance(value, tuple):
        return set()
    if len(value) in (2, 3) and value[0] in ("const", "rec") and isinstance(value[1], str):
        return {value[1]}
    return set().union(*[all_names(one) for one in value]) if value else set()


class Own:
    """What the tests reckon of declarations."""

    def __init__(self, rows):
        self.rows = rows
        self.uses = {}
        for row in rows:
            names = all_names(row[2:])
            self.uses[row[1]] = names - {row[1]}
            if row[0] == "data":
                for one in row[5]:
                    self.uses[one[0]] = (all_names((row[2], row[5])) | {row[1]}) - {one[0]}

    def reached(self, names):
        """Return names and all that they need."""
        found = set(names)
        while True:
            more = found.union(*[self.uses[name] for name in found])
            if more == found:
                return found
            found = more


class TestDepends(unittest.TestCase):
    def compare(self, signature, chance):
        """Compare what is told of each name, and of some together, with what the tests reckon."""
        own = Own(signature.order)
        for name in own.uses:
            rest = own.reached([name])
            self.assertEqual(needs(signature, name), tuple(sorted(own.uses[name])))
            self.assertEqual(all_needs(signature, name), tuple(sorted(rest - {name})))
            self.assertEqual(
                axioms_of(signature, name), tuple(row[1] for row in own.rows if row[0] == "axiom" and row[1] in rest)
            )
        for many in (0, 1, 2, 3):
            names = chance.sample(sorted(own.uses), min(many, len(own.uses)))
            rest = own.reached(names)
            self.assertEqual(unused(signature, names), tuple(row[1] for row in own.rows if row[1] not in rest))
            cut = cut_down(signature, names)
            self.assertEqual(cut, tuple(row for row in own.rows if row[1] in rest))
            fresh = check_all(cut)
            for name in names:
                self.assertEqual(fresh.kind_of(name), signature.kind_of(name))
            for place in range(len(cut)):
                try:
                    left = check_all(cut[:place] + cut[place + 1:])
                except KernelError:
                    continue
                self.assertFalse(all(name in left.kinds for name in names))

    def drawn(self, chance):
        """Return drawn declarations each of which uses some before it."""
        rows, kinds, proofs = [], [], []
        for number in range(chance.randrange(1, 12)):
            way = chance.randrange(5)
            used = chance.sample(kinds, min(len(kinds), chance.randrange(3)))
            if way == 0 or kinds == []:
                rows.append(("axiom", f"k{number}", TYPE))
                kinds.append(("const", f"k{number}"))
            elif way == 1:
                kind = chance.choice(kinds)
                for one in used:
                    kind = arrow(one, kind)
                rows.append(("axiom", f"x{number}", kind))
                proofs.append((("const", f"x{number}"), kind))
            elif way == 2 and proofs:
                value, kind = chance.choice(proofs)
                if chance.random() < 0.5:
                    value, kind = lam(("a", used[0]), value) if used else value, arrow(used[0], kind) if used else kind
                rows.append(("def", f"d{number}", kind, value))
                proofs.append((("const", f"d{number}"), kind))
            elif way == 3:
                kind = chance.choice(kinds)
                rows.append(("def", f"k{number}", TYPE, arrow(kind, kind)))
                kinds.append(("const", f"k{number}"))
            else:
                name = f"k{number}"
                fields = tuple((f"f{place}", one) for place, one in enumerate(used + [("const", name)]))
                rows.append(("data", name, (), (), 1, ((f"c{number}", (), ()), (f"e{number}", fields, ()))))
                kinds.append(("const", name))
                proofs.append((("const", f"c{number}"), ("const", name)))
                rows.append(("def", f"r{number}", arrow(("const", name), TYPE), applied(
                    ("rec", name, 2), lam(("_", ("const", name)), TYPE), ("const", name),
                    self.case(fields, name))))
        return rows

    def case(self, fields, name):
        """Return the second case of a recursor into kinds, which gives the data itself."""
        body = lam(("h", TYPE), ("const", name))
        for field, kind in reversed(fields):
            body = lam((field, kind), body)
        return body

    def test_interface(self):
        for name, told in (
            ("needs", "(signature, name)"),
            ("all_needs", "(signature, name)"),
            ("axioms_of", "(signature, name)"),
            ("unused", "(signature, names)"),
            ("cut_down", "(signature, names)"),
        ):
            self.assertEqual(str(inspect.signature(getattr(depends, name))), told)

    def test_drawn_declarations(self):
        chance = random.Random(81)
        for _ in range(150):
            signature = check_all(self.drawn(chance))
            before = signature.shown()
            self.compare(signature, chance)
            self.assertEqual(signature.shown(), before)

    def test_the_stock(self):
        chance = random.Random(82)
        for _ in range(4):
            self.compare(SIGNATURE, chance)

    def test_examples(self):
        signature = check_all((
            ("axiom", "p", PROP),
            ("axiom", "q", ("const", "p")),
            ("data", "nat", (), (), 1, (("O", (), ()), ("S", (("n", NAT),), ()))),
            ("data", "box", (("A", TYPE),), (("k", NAT),), 1,
             (("put", (("a", V0), ("h", ("const", "p"))), (ZERO,)), ("none", (), (ZERO,)))),
            ("def", "two", NAT, applied(("const", "S"), applied(("const", "S"), ZERO))),
            ("def", "loop", arrow(NAT, NAT), applied(("rec", "nat", 1), lam(("x", NAT), NAT), ZERO,
                                                     lam(("n", NAT), ("h", NAT), V0))),
            ("def", "r", ("const", "p"), ("const", "q")),
            ("def", "s", pi(("x", ("const", "p")), ("const", "p")), lam(("x", ("const", "p")), ("const", "r"))),
            ("axiom", "t", arrow(("const", "p"), PROP)),
        ))
        for name, told in (
            ("p", ()),
            ("q", ("p",)),
            ("nat", ()),
            ("O", ("nat",)),
            ("S", ("nat",)),
            ("box", ("O", "nat", "p")),
            ("put", ("O", "box", "p")),
            ("none", ("O", "box", "p")),
            ("two", ("O", "S", "nat")),
            ("loop", ("O", "nat")),
            ("r", ("p", "q")),
            ("s", ("p", "r")),
            ("t", ("p",)),
        ):
            self.assertEqual(needs(signature, name), told)
        self.assertEqual(all_needs(signature, "s"), ("p", "q", "r"))
        self.assertEqual(axioms_of(signature, "s"), ("p", "q"))
        self.assertEqual(axioms_of(signature, "q"), ("p", "q"))
        self.assertEqual(axioms_of(signature, "p"), ("p",))
        self.assertEqual(axioms_of(signature, "none"), ("p",))
        self.assertEqual(axioms_of(signature, "two"), ())
        self.assertEqual(unused(signature, ("s", "O")), ("box", "two", "loop", "t"))
        self.assertEqual(unused(signature, ()), ("p", "q", "nat", "box", "two", "loop", "r", "s", "t"))
        self.assertEqual([row[1] for row in cut_down(signature, ("put",))], ["p", "nat", "box"])
        self.assertEqual([row[1] for row in cut_down(signature, ("t", "r"))], ["p", "q", "r", "t"])
        self.assertEqual(cut_down(signature, ()), ())
        for call in (needs, all_needs, axioms_of):
            with self.assertRaises(NameFault):
                call(signature, "nowhere")


if __name__ == "__main__":
    unittest.main()
