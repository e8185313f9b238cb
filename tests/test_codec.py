import inspect
import random
import unittest

from kernelstack import codec
from kernelstack.codec import (
    Unpacker,
    Writer,
    check_declaration,
    digest,
    name_bytes,
    number_bytes,
    pack_declarations,
    unpack_declarations,
)
from kernelstack.errors import FileFault
from samples import NAT, NEXT, PROP, SAMPLES, TYPE, V0, V1, ZERO, applied, broad, chain
from shallow import within
from stock import ROWS, lam, pi
from texts import WORLD

LETTERS = " abcdefghijklmnopqrstuvwxyzABCDEFGHIJKLMNOPQRSTUVWXYZ_0123456789'."
SMALL = (
    ("axiom", "a", NAT),
    ("def", "f", pi(("x", NAT), NAT), lam(("x", NAT), V0)),
    ("data", "d", (("A", TYPE),), (("k", NAT),), 1, (("c", (), (ZERO,)), ("e", (("x", V0),), (ZERO,)))),
)


class TestNumbersAndNames(unittest.TestCase):
    def test_interface(self):
        for name, told in {
            "number_bytes": "(number)",
            "name_bytes": "(name)",
            "pack_declarations": "(declarations)",
            "unpack_declarations": "(data)",
            "check_declaration": "(row)",
            "digest": "(data)",
            "Writer": "()",
            "Unpacker": "(data)",
        }.items():
            self.assertEqual(str(inspect.signature(getattr(codec, name))), told)
        writer = Writer()
        self.assertEqual((writer.data, writer.rows), ([], []))
        unpacker = Unpacker((1, 2))
        self.assertEqual((unpacker.data, unpacker.place), ((1, 2), 0))

    def test_numbers(self):
        for number, told in (
            (0, [0]),
            (1, [1]),
            (127, [127]),
            (128, [128, 1]),
            (129, [129, 1]),
            (300, [172, 2]),
            (16383, [255, 127]),
            (16384, [128, 128, 1]),
            (2**28 - 1, [255, 255, 255, 127]),
            (2**28, [128, 128, 128, 128, 1]),
            (2**35 - 1, [255, 255, 255, 255, 127]),
        ):
            self.assertEqual(number_bytes(number), told)
            unpacker = Unpacker(tuple(told) + (9,))
            self.assertEqual(unpacker.number(), number)
            self.assertEqual(unpacker.place, len(told))
        for number in (2**35, 2**35 + 1, 2**70):
            with self.assertRaises(FileFault):
                number_bytes(number)

    def test_what_is_no_number(self):
        for data in (
            (),
            (128,),
            (128, 0),
            (129, 0),
            (128, 128, 0),
            (255, 255, 255, 255, 128),
            (128, 128, 128, 128, 128, 1),
            (255, 255, 255, 255, 255, 0),
            (255, 255, 255, 255),
        ):
            unpacker = Unpacker(data)
            with self.assertRaises(FileFault):
                unpacker.number()
            self.assertEqual(unpacker.place, 0)

    def test_names(self):
        self.assertEqual(name_bytes(""), [0])
        self.assertEqual(name_bytes("ab"), [2, 1, 2])
        self.assertEqual(name_bytes(" zAZ_09'."), [9, 0, 26, 27, 52, 53, 54, 63, 64, 65])
        for start in (0, 20):
            name = LETTERS[start : start + 60]
            self.assertEqual(name_bytes(name), [len(name)] + list(range(start, start + len(name))))
        self.assertEqual(len(LETTERS), 66)
        for name in ("", "x", "a b", LETTERS[:60], "x" * 60):
            unpacker = Unpacker(tuple(name_bytes(name)))
            self.assertEqual(unpacker.read_name(), name)
            self.assertEqual(unpacker.place, len(name) + 1)
        for name in ("x" * 61, "a#", "\u00e9", "a\n", "-", "x,y", "a\tb"):
            with self.assertRaises(FileFault):
                name_bytes(name)
        for data in ((), (1,), (1, 66), (1, 255), (61,) + (1,) * 61, (2, 1), (128, 0), (3, 1, 2)):
            unpacker = Unpacker(data)
            with self.assertRaises(FileFault):
                unpacker.read_name()
            self.assertEqual(unpacker.place, 0)


class TestNodes(unittest.TestCase):
    def test_equal_subterms_are_kept_once(self):
        writer = Writer()
        self.assertEqual(writer.node(applied(NEXT, ZERO, ZERO)), 3)
        self.assertEqual(len(writer.rows), 4)
        before = list(writer.data)
        self.assertEqual(writer.node(applied(NEXT, ZERO)), 2)
        self.assertEqual(writer.node(ZERO), 1)
        self.assertEqual(writer.data, before)
        # Binders' names count here.
        writer = Writer()
        writer.node(lam(("x", NAT), V0))
        self.assertEqual(writer.node(lam(("y", NAT), V0)), 3)
        self.assertEqual(len(writer.rows), 4)

    def test_bytes_of_each_form(self):
        for term, told in (
            (V1, [0, 1]),
            (TYPE, [1, 1]),
            (("const", "a"), [2, 1, 1]),
            (("rec", "a", 2), [3, 1, 1, 2]),
            (("pi", "x", V0, V1), [0, 0, 0, 1, 4, 1, 24, 0, 1]),
            (("lam", "x", V0, V0), [0, 0, 5, 1, 24, 0, 0]),
            (("app", V1, V0), [0, 1, 0, 0, 6, 0, 1]),
            (("let", "x", V0, V1, V0), [0, 0, 0, 1, 7, 1, 24, 0, 1, 0]),
        ):
            writer = Writer()
            writer.node(term)
            self.assertEqual(writer.data, told, term)

    def test_terms_of_any_depth(self):
        term, other = V0, V0
        for _ in range(3000):
            term = lam(("x", NAT), applied(term, V1))
            other = applied(NEXT, other)
        for one, rows in ((term, 3 + 2 * 3000), (other, 2 + 3000)):
            writer = Writer()
            self.assertEqual(within(100, lambda: writer.node(one)), rows - 1)
            self.assertEqual(len(writer.rows), rows)
            data = within(100, lambda: pack_declarations((("axiom", "a", one),)))
            with self.assertRaises(FileFault):
                within(100, lambda: unpack_declarations(data))
        # The parts of a node are written in their order, each before the node.
        writer = Writer()
        writer.node(("let", "x", TYPE, V1, applied(V0, V1)))
        self.assertEqual(writer.rows, [TYPE, V1, V0, ("app", 2, 1), ("let", "x", 0, 1, 3)])

    def test_a_refused_node_changes_nothing(self):
        writer = Writer()
        writer.node(NEXT)
        before = list(writer.data), list(writer.rows)
        for term in (
            applied(ZERO, ("const", "#")),
            lam(("a-b", ("const", "new")), V0),
            ("var", 2**35),
            applied(("const", "new"), ("const", "x" * 61)),
        ):
            with self.assertRaises(FileFault):
                writer.node(term)
            self.assertEqual((writer.data, writer.rows), before)
        self.assertEqual(writer.node(ZERO), 1)

    def test_nodes_that_are_none(self):
        for data in ((8, 0), (255,), (6, 0, 0), (4, 1, 1, 0, 0), (0,), (2, 1), (0, 128, 0), (2, 61) + (1,) * 61):
            unpacker = Unpacker(data)
            with self.assertRaises(FileFault):
                unpacker.read_node()
            self.assertEqual(unpacker.place, 0)
        unpacker = Unpacker((0, 1, 0, 1))
        unpacker.read_node()
        with self.assertRaises(FileFault):
            unpacker.read_node()


class TestDeclarations(unittest.TestCase):
    def refuse(self, declarations):
        """Raise a failure for declarations that can be kept."""
        with self.assertRaises(FileFault):
            pack_declarations(declarations)

    def test_the_very_bytes(self):
        self.assertEqual(pack_declarations(()), (0, 0))
        self.assertEqual(pack_declarations((("axiom", "a", PROP),)), (1, 1, 0, 1, 0, 1, 1, 0))
        self.assertEqual(pack_declarations((("def", "b", TYPE, PROP),)), (2, 1, 1, 1, 0, 1, 1, 1, 2, 0, 1))
        self.assertEqual(
            pack_declarations((("data", "d", (("A", TYPE),), (), 1, (("c", (("x", V0),), ()),)),)),
            (2, 1, 1, 0, 0, 1, 2, 1, 4, 1, 1, 27, 0, 0, 1, 1, 1, 3, 1, 1, 24, 1, 0),
        )
        self.assertEqual(
            pack_declarations((("data", "d", (), (("k", TYPE),), 0, (("c", (), (PROP,)),)),)),
            (2, 1, 1, 1, 0, 1, 2, 1, 4, 0, 1, 1, 11, 0, 0, 1, 1, 3, 0, 1, 1),
        )

    def test_read_back(self):
        for rows in (ROWS, WORLD.signature.shown(), SMALL, ()):
            data = pack_declarations(rows)
            self.assertIsInstance(data, tuple)
            self.assertTrue(all(0 <= one <= 255 for one in data))
            self.assertEqual(unpack_declarations(data), tuple(rows))
            self.assertEqual(pack_declarations(list(rows)), data)
        for term in SAMPLES:
            row = (("axiom", "a", term),)
            self.assertEqual(unpack_declarations(pack_declarations(row)), row)
        for name in ("", "_", "a b", "x" * 60, "1"):
            row = (("axiom", name, ("pi", name, NAT, ("const", name))),)
            self.assertEqual(unpack_declarations(pack_declarations(row)), row)

    def test_numbers_at_the_edges(self):
        for number in (0, 127, 128, 16383, 16384, 2**35 - 1):
            row = (("axiom", "a", ("var", number)),)
            self.assertEqual(unpack_declarations(pack_declarations(row)), row)
        self.refuse((("axiom", "a", ("var", 2**35)),))

    def test_what_cannot_be_kept(self):
        for name in ("x" * 61, "#1", "a-b", "\u00e9"):
            self.refuse((("axiom", name, NAT),))
            self.refuse((("axiom", "a", ("const", name)),))
            self.refuse((("axiom", "a", lam((name, NAT), V0)),))
            self.refuse((("data", "d", ((name, NAT),), (), 1, ()),))
            self.refuse((("data", "d", (), (), 1, ((name, (), ()),)),))

    def test_too_large_together(self):
        term = broad(19999)
        fits = tuple(("axiom", f"a{number}", term) for number in range(5)) + (
            ("axiom", "b", applied(V0, V0)),
            ("axiom", "c", V0),
            ("axiom", "d", V0),
        )
        self.assertEqual(unpack_declarations(pack_declarations(fits)), fits)
        self.refuse(fits + (("axiom", "e", V0),))

    def test_one_term_that_is_far_too_large(self):
        term = V0
        for _ in range(90):
            term = applied(term, term)
        self.refuse((("axiom", "a", term),))

    def test_terms_that_are_too_large(self):
        for term in (chain(101), ("sort", 13), ("rec", "nat", 13), broad(20001)):
            data = pack_declarations((("axiom", "a", term),))
            with self.assertRaises(FileFault):
                unpack_declarations(data)
            with self.assertRaises(FileFault):
                check_declaration(("axiom", "a", term))
            with self.assertRaises(FileFault):
                check_declaration(("def", "a", NAT, term))
            with self.assertRaises(FileFault):
                check_declaration(("data", "d", (), (), 1, (("c", (("x", term),), ()),)))
            with self.assertRaises(FileFault):
                check_declaration(("data", "d", (), (), 1, (("c", (), (term,)),)))
        for row in ROWS:
            self.assertIsNone(check_declaration(row))
        self.assertIsNone(check_declaration(("axiom", "a", chain(100))))
        row = (("axiom", "a", chain(100)), ("axiom", "b", broad(20000)))
        self.assertEqual(unpack_declarations(pack_declarations(row)), row)

    def test_each_byte_changed_left_out_or_put_in(self):
        chance = random.Random(5)
        data = pack_declarations(SMALL)
        told = {"read": 0, "refused": 0}
        for place in range(len(data)):
            ways = [data[:place] + data[place + 1 :]]
            for other in sorted({0, 1, 127, 128, 255, data[place] ^ 1, data[place] ^ 128, chance.randrange(256)}):
                ways.append(data[:place] + (other,) + data[place + 1 :])
                ways.append(data[:place] + (other,) + data[place:])
            for way in ways:
                try:
                    found = unpack_declarations(way)
                except FileFault:
                    told["refused"] += 1
                    continue
                told["read"] += 1
                self.assertEqual(pack_declarations(found), way)
        self.assertGreater(told["refused"], 500)

    def test_bytes_that_are_none(self):
        data = pack_declarations(SMALL)
        for way in (
            (),
            (0,),
            data[:-1],
            data + (0,),
            data + data,
            (0, 0, 0),
            (255,) * 20,
            (1, 1, 0, 0),
            (0, 1, 3, 0, 0),
            (1, 1, 0, 2, 0, 1, 1, 0),
            (2, 1, 0, 1, 1, 1, 0, 1, 1, 0),
            (2, 1, 0, 1, 0, 1, 0, 1, 1, 0),
            (1, 1, 0, 1, 0, 1, 1, 1),
            (128, 128, 128, 128, 8, 1),
        ):
            with self.assertRaises(FileFault):
                unpack_declarations(way)
        # Nodes in another order than declarations lead to them.
        self.assertEqual(pack_declarations((("def", "a", PROP, TYPE),)), (2, 1, 0, 1, 1, 1, 1, 1, 1, 0, 1))
        with self.assertRaises(FileFault):
            unpack_declarations((2, 1, 1, 1, 0, 1, 1, 1, 1, 1, 0))

    def test_digests(self):
        self.assertEqual(digest(()), 11)
        self.assertEqual(digest((0,)), 257 * 11 + 1)
        self.assertEqual(digest((5, 7)), 257 * (257 * 11 + 6) + 8)
        value = 11
        for one in range(200):
            value = (257 * value + one + 1) % 2147483647
        self.assertEqual(digest(tuple(range(200))), value)
        self.assertNotEqual(digest((1, 2)), digest((2, 1)))


if __name__ == "__main__":
    unittest.main()
