"""Libraries: files compiled and loaded, what is checked anew, and what is refused."""

import random
import unittest

from kernelstack.codec import digest
from kernelstack.errors import FileFault, HoleFault, KernelError, KindFault, NameFault, StepFault, TextError
from kernelstack.library import Library, ObjectFile, read_object
from naive_kernel import Naive
from test_files import with_digest
from texts import state

BASE = """
data nat : Type | O | S (n : nat) end;
data eq {A : Type} (a : A) : A -> Prop | refl : eq A a a end;
def plus (n m : nat) : nat := rec[nat 1] (fun x => nat) m (fun k h => S h) n;
"""
LAWS = """import base; -- what is proved of it
theorem cong {A B : Type} (f : A -> B) (a b : A) : eq A a b -> eq B (f a) (f b) by
  intro p, cases p, exact refl ?;
theorem plus_zero (n : nat) : eq nat (plus n 0) n by induction n, exact refl 0, apply cong S, exact h;
"""
LOGIC = "data and {a b : Prop} : Prop | both (x : a) (y : b) end; axiom some : Prop; axiom sure : some;"
TOP = """import laws;
import logic;
theorem two : and some (eq nat (plus 2 0) 2) by exact both sure (plus_zero 2);
def first {A : Type} (a b : A) : A := a;
"""
TEXTS = {"base": BASE, "laws": LAWS, "logic": LOGIC, "top": TOP}


def library():
    """Return a library of the texts, in which nothing is compiled."""
    found = Library()
    for name in TEXTS:
        found.texts[name] = TEXTS[name]
    return found


def compiled(*names):
    """Return a library in which files are compiled."""
    found = library()
    for name in names or ("top",):
        found.compile_file(name)
    return found


def holding(objects):
    """Return a new library of bytes."""
    found = Library()
    for name in objects:
        found.objects[name] = objects[name]
    return found


def held(one):
    """Return all that a library holds, to be compared."""
    return (dict(one.texts), dict(one.objects), one.checks)


def repacked(objects, **changes):
    """Return bytes of files where some are made anew, and those that import them have the right digests."""
    found = {}
    for name in ("base", "laws", "logic", "top"):
        file = changes.get(name) or read_object(objects[name])
        imports = tuple((one, digest(found[one]) if one in found else number) for one, number in file.imports)
        found[name] = ObjectFile(file.name, imports, file.declarations, file.implicits, file.theorems).packed()
    return found


class Libraries(unittest.TestCase):
    def need_good(self, world):
        """Test that a naive kernel accepts a world's declarations one after another, and that its marks fit."""
        naive = Naive()
        names = []
        for row in world.signature.order:
            naive.add(row)
            names += [row[1]] if row[0] != "data" else [row[1]] + [one[0] for one in row[5]]
        self.assertEqual(len(names), len(set(names)))
        self.assertEqual(set(world.implicits), set(names))
        for name in world.theorems:
            self.assertEqual(naive.level_of(naive.kinds[name], ()), 0)

    def refuse(self, one, fault, call, *arguments):
        """Test that a call is refused with a fault, and changes nothing."""
        before = held(one)
        with self.assertRaises(fault) as caught:
            call(*arguments)
        self.assertIs(type(caught.exception), fault)
        self.assertEqual(held(one), before)


class TestCompiling(Libraries):
    def test_the_same_world(self):
        one = library()
        world = one.compile_file("top")
        self.need_good(world)
        self.assertEqual(world.theorems, ["cong", "plus_zero", "two"])
        self.assertEqual(world.implicits["cong"], 2)
        self.assertEqual(world.implicits["first"], 1)
        self.assertEqual(one.checks, 0)
        self.assertEqual(sorted(one.objects), sorted(TEXTS))
        self.assertEqual(one.texts, TEXTS)
        self.assertEqual(state(one.load("top")), state(world))
        self.assertEqual(state(holding(one.objects).load("top")), state(world))
        for name in ("base", "laws", "logic"):
            self.assertEqual(state(holding(one.objects).load(name)), state(library().compile_file(name)))
            self.assertNotIn("top", compiled(name).objects)

    def test_files(self):
        one = compiled()
        file = read_object(one.objects["laws"])
        self.assertEqual(file.name, "laws")
        self.assertEqual(file.imports, (("base", digest(one.objects["base"])),))
        self.assertEqual(file.theorems, ("cong", "plus_zero"))
        self.assertEqual(dict(file.implicits), {"cong": 2, "plus_zero": 0})
        self.assertEqual([row[1] for row in file.declarations], ["cong", "plus_zero"])
        self.assertEqual([row[0] for row in read_object(one.objects["top"]).imports], ["laws", "logic"])

    def test_needed(self):
        one = library()
        self.assertEqual(one.needed("base"), ["base"])
        self.assertEqual(one.needed("laws"), ["base", "laws"])
        self.assertEqual(one.needed("top"), ["base", "laws", "logic", "top"])
        self.refuse(one, FileFault, one.needed, "nowhere")
        one.texts["other"] = "import nowhere;"
        self.refuse(one, FileFault, one.needed, "other")
        one.texts["other"] = "import base"
        self.refuse(one, TextError, one.needed, "other")

    def test_each_file_over_what_it_imports_alone(self):
        one = library()
        one.texts["other"] = "import logic; def new : nat := O;"
        one.texts["both"] = "import base; import other;"
        self.refuse(one, NameFault, one.compile_file, "both")
        one.texts["other"] = "import laws; def new : nat := plus 1 1;"
        one.compile_file("both")

    def test_what_is_refused(self):
        for text, fault in (
            ("axiom a : nowhere;", NameFault),
            ("axiom a : ?;", HoleFault),
            ("axiom a : Prop", TextError),
            ("import base; def a : nat := nat;", KindFault),
            ("import base; axiom nat : Type;", NameFault),
            ("import base; theorem a : eq nat 0 1 by exact refl 0;", StepFault),
            ("import base", TextError),
            ("import base; import base;", TextError),
            ("import nowhere;", FileFault),
            ("import new;", FileFault),
            ("import base; import twin;", FileFault),
        ):
            one = compiled("logic")
            one.texts["twin"] = "axiom O : Prop;"
            one.texts["new"] = text
            self.refuse(one, fault, one.compile_file, "new")
            one.texts["over"] = "import logic; import new;"
            self.refuse(one, fault, one.compile_file, "over")
        self.refuse(one, FileFault, one.compile_file, "nowhere")

    def test_rings(self):
        one = library()
        one.texts["self"] = "import self;"
        one.texts["a"], one.texts["b"], one.texts["c"] = "import b;", "import base; import c;", "import a;"
        one.texts["d"] = "import base; import c;"
        for name in ("self", "a", "b", "c", "d"):
            self.refuse(one, FileFault, one.needed, name)
            self.refuse(one, FileFault, one.compile_file, name)

    def test_chains(self):
        one = Library()
        one.texts["f1"] = "axiom a1 : Prop;"
        for number in range(2, 1500):
            one.texts[f"f{number}"] = f"import f{number - 1}; axiom a{number} : Prop;"
        self.assertEqual(one.needed("f20"), [f"f{number}" for number in range(1, 21)])
        self.assertEqual(len(one.compile_file("f20").signature.order), 20)
        self.assertEqual(len(one.load("f20").signature.order), 20)
        for name in ("f21", "f22", "f1499"):
            self.refuse(one, FileFault, one.needed, name)
            self.refuse(one, FileFault, one.compile_file, name)
        # The longest way counts, not the one that is told first.
        one.texts["top"] = "import f1; import f20;"
        self.refuse(one, FileFault, one.needed, "top")
        one.texts["top"] = "import f19; import f1; import f3;"
        self.assertEqual(len(one.needed("top")), 20)
        one.objects["f21"] = ObjectFile("f21", (("f20", digest(one.objects["f20"])),), (), (), ()).packed()
        self.refuse(one, FileFault, one.load, "f21")

    def test_twenty_imports(self):
        for many in (20, 21):
            one = Library()
            for number in range(many):
                one.texts[f"f{number}"] = f"axiom a{number} : Prop;"
            one.texts["top"] = "".join([f"import f{number};" for number in range(many)]) + "axiom b : a0 -> a19;"
            if many == 20:
                self.assertEqual(len(one.compile_file("top").signature.order), 21)
                self.assertEqual(len(one.load("top").signature.order), 21)
            else:
                self.refuse(one, TextError, one.compile_file, "top")
                for number in range(many):
                    one.compile_file(f"f{number}")
                rows = tuple((f"f{number}", digest(one.objects[f"f{number}"])) for number in range(many))
                one.objects["top"] = ObjectFile("top", rows, (), (), ()).packed()
                self.refuse(one, FileFault, one.load, "top")
                one.objects["top"] = ObjectFile("top", rows[:20], (), (), ()).packed()
                one.load("top")


class TestLoading(Libraries):
    def test_what_is_checked(self):
        one = compiled()
        for name, checks in (("base", 1), ("base", 1), ("laws", 2), ("top", 4), ("top", 4), ("laws", 4)):
            one.load(name)
            self.assertEqual(one.checks, checks, name)
        one.texts["laws"] = LAWS + "def more : nat := plus 1 1;"
        one.compile_file("top")
        self.assertEqual(one.checks, 4)
        one.load("laws")
        self.assertEqual(one.checks, 5)
        # What stands over other bytes is checked anew, logic too, which is loaded behind them.
        one.load("top")
        self.assertEqual(one.checks, 7)
        one.texts["laws"] = LAWS
        one.compile_file("top")
        for name in ("top", "laws", "base"):
            one.load(name)
            self.assertEqual(one.checks, 7)
        other = holding(one.objects)
        other.load("top")
        self.assertEqual(other.checks, 4)

    def test_what_is_refused_is_not_counted(self):
        one = compiled()
        good = one.objects["top"]
        file = read_object(good)
        bad = ObjectFile("top", file.imports, file.declarations + (("axiom", "x", ("const", "y")),), file.implicits,
                         file.theorems)
        one.objects["top"] = bad.packed()
        self.refuse(one, FileFault, one.load, "top")
        self.refuse(one, FileFault, one.load, "top")
        one.load("logic")
        self.assertEqual(one.checks, 1)
        one.objects["top"] = good
        one.load("top")
        self.assertEqual(one.checks, 5)
        one.objects["top"] = bad.packed()
        self.refuse(one, FileFault, one.load, "top")
        one.load("laws")
        self.assertEqual(one.checks, 5)
        del one.objects["base"]
        self.refuse(one, FileFault, one.load, "laws")
        self.refuse(one, FileFault, one.load, "nowhere")

    def test_what_was_checked_is_not_taken_for_other_bytes(self):
        # A file that is good over one import is refused over another one, whatever was loaded before.
        one = Library()
        one.texts["a"] = "axiom p : Prop; axiom x : p;"
        one.texts["b"] = "import a; def y : p := x;"
        one.compile_file("b")
        one.load("b")
        good = dict(one.objects)
        one.texts["a"] = "axiom p : Prop; axiom x : Prop;"
        one.compile_file("a")
        file = read_object(good["b"])
        one.objects["b"] = ObjectFile("b", (("a", digest(one.objects["a"])),), file.declarations, file.implicits,
                                      ()).packed()
        self.refuse(one, FileFault, one.load, "b")
        one.objects.update(good)
        one.load("b")
        self.assertEqual(one.checks, 2)

    def test_names_and_digests(self):
        objects = compiled().objects
        one = holding(objects)
        one.objects["other"] = objects["base"]
        self.refuse(one, FileFault, one.load, "other")
        for first, second in (("base", "laws"), ("laws", "logic"), ("base", "top")):
            one = holding(objects)
            one.objects[first], one.objects[second] = objects[second], objects[first]
            self.refuse(one, FileFault, one.load, "top")
        other = Library()
        other.texts["base"] = BASE + "axiom more : Prop;"
        other.compile_file("base")
        one = holding(objects)
        one.objects["base"] = other.objects["base"]
        self.refuse(one, FileFault, one.load, "laws")
        self.refuse(one, FileFault, one.load, "top")
        one.load("logic")

    def test_what_does_not_fit(self):
        objects = compiled().objects
        laws, logic, top = (read_object(objects[name]) for name in ("laws", "logic", "top"))
        base = read_object(objects["base"])
        cong, zero = laws.declarations
        bad = {
            "a file without its imports": ("laws", ()),
            "an import twice": ("laws", laws.imports + laws.imports),
            "a ring": ("base", (("top", 0),)),
            "itself": ("base", (("base", 0),)),
            "what is nowhere": ("base", (("nowhere", 0),)),
        }
        for why, (name, imports) in bad.items():
            file = read_object(objects[name])
            file = ObjectFile(name, imports, file.declarations, file.implicits, file.theorems)
            one = holding(repacked(objects, **{name: file}))
            with self.subTest(why):
                self.refuse(one, FileFault, one.load, "top")
        for why, changes in {
            "a theorem of another file": {"theorems": ("cong", "plus_zero", "plus")},
            "a theorem of no name": {"theorems": ("nowhere",)},
            "a theorem twice": {"theorems": ("cong", "cong")},
            "implicit arguments of another file's name": {"implicits": (("plus", 0),)},
            "more implicit arguments than products": {"implicits": (("cong", 7),)},
            "more implicit arguments than one product": {"implicits": (("plus_zero", 2),)},
            "implicit arguments twice": {"implicits": (("cong", 0), ("cong", 2))},
            "declarations in another order": {"declarations": (zero, cong)},
            "a declaration twice": {"declarations": (cong, zero, zero)},
            "a declaration of an import": {"declarations": (cong, zero, base.declarations[0])},
            "a proof of something else": {"declarations": (cong, zero[:3] + (cong[3],)), "theorems": ()},
            "another statement": {"declarations": (cong, zero[:2] + (cong[2],) + zero[3:])},
        }.items():
            parts = {"declarations": laws.declarations, "implicits": laws.implicits, "theorems": laws.theorems}
            parts.update(changes)
            file = ObjectFile("laws", laws.imports, parts["declarations"], parts["implicits"], parts["theorems"])
            one = holding(repacked(objects, laws=file))
            with self.subTest(why):
                self.refuse(one, FileFault, one.load, "top")
                self.refuse(one, FileFault, one.load, "laws")
        for names in (("first",), ("some",), ("and",), ("both",)):
            file = ObjectFile("top", top.imports, top.declarations, top.implicits, names)
            one = holding(repacked(objects, top=file))
            self.refuse(one, FileFault, one.load, "top")
        # A theorem may be left out, and fewer arguments be implicit.
        file = ObjectFile("laws", laws.imports, laws.declarations, (("cong", 6),), ("plus_zero",))
        world = holding(repacked(objects, laws=file)).load("top")
        self.assertEqual((world.theorems, world.implicits["cong"]), (["plus_zero", "two"], 6))
        self.need_good(world)

    def test_a_file_uses_what_it_imports_alone(self):
        # In the world of the file on top stands all that is used, but the file in the middle does not import it.
        objects = dict(compiled("laws", "logic").objects)
        middle = ObjectFile("middle", (), (("axiom", "x", ("const", "some")),), (), ())
        objects["middle"] = middle.packed()
        rows = tuple((name, digest(objects[name])) for name in ("logic", "middle"))
        objects["over"] = ObjectFile("over", rows, (), (), ()).packed()
        one = holding(objects)
        self.refuse(one, FileFault, one.load, "over")
        self.refuse(one, FileFault, one.load, "middle")

    def test_bytes_changed(self):
        objects = compiled().objects
        chance = random.Random(71)
        told = {"refused": 0, "loaded": 0}
        for _ in range(500):
            name = chance.choice(list(TEXTS))
            data = list(objects[name][:-4])
            for _ in range(chance.choice((1, 1, 2, 3))):
                place = chance.randrange(3, len(data))
                way = chance.randrange(4)
                if way == 0:
                    del data[place]
                elif way == 1:
                    data.insert(place, chance.randrange(256))
                elif way == 2:
                    data[place] = chance.randrange(256)
                else:
                    data[place] = chance.choice(data)
            changed = dict(objects)
            changed[name] = with_digest(data)
            try:
                changed = repacked(changed)
            except FileFault:
                pass
            one = holding(changed)
            before = held(one)
            try:
                self.need_good(one.load("top"))
                told["loaded"] += 1
            except FileFault:
                told["refused"] += 1
                self.assertEqual(held(one), before)
        self.assertGreater(min(told.values()), 10, told)

    def test_parts_of_declarations_exchanged(self):
        objects = compiled().objects
        chance = random.Random(72)
        terms = []
        for name in TEXTS:
            for row in read_object(objects[name]).declarations:
                terms += row[2:] if row[0] != "data" else []
        told = {"refused": 0, "loaded": 0}
        for _ in range(300):
            name = chance.choice(("base", "laws", "top"))
            file = read_object(objects[name])
            rows = list(file.declarations)
            place = chance.choice([at for at, row in enumerate(rows) if row[0] == "def"])
            row = list(rows[place])
            row[chance.choice((2, 3))] = chance.choice(terms)
            rows[place] = tuple(row)
            if chance.random() < 0.3:
                chance.shuffle(rows)
            file = ObjectFile(name, file.imports, tuple(rows), file.implicits, file.theorems)
            one = holding(repacked(objects, **{name: file}))
            before = held(one)
            try:
                self.need_good(one.load("top"))
                told["loaded"] += 1
            except FileFault:
                told["refused"] += 1
                self.assertEqual(held(one), before)
        self.assertGreater(min(told.values()), 5, told)

    def test_drawn_libraries(self):
        chance = random.Random(73)
        for _ in range(40):
            one = Library()
            many = chance.randrange(2, 5)
            names = []
            for number in range(many):
                imports = [f"f{other}" for other in range(number) if chance.random() < 0.6]
                known = [f"a{other}" for other in range(number) if f"f{other}" in imports]
                text = "".join([f"import {name};\n" for name in imports])
                text += f"axiom a{number} : {' -> '.join(known + ['Prop'])};" if chance.random() < 0.1 else \
                    f"axiom a{number} : Prop; theorem t{number} : a{number} -> a{number} := fun (x : a{number}) => x;"
                text += "".join([f"axiom b{number}{name} : {name} -> a{number};" for name in known])
                one.texts[f"f{number}"] = text
                names.append(f"f{number}")
            for name in names:
                try:
                    world = one.compile_file(name)
                except KernelError:
                    # An axiom that is no statement may not stand in a kind; what imports it is refused with it.
                    continue
                self.need_good(world)
                self.assertEqual(state(one.load(name)), state(world))
                self.assertEqual(state(holding(one.objects).load(name)), state(world))
                checks = one.checks
                self.assertEqual(state(one.load(name)), state(world))
                self.assertEqual(one.checks, checks)


if __name__ == "__main__":
    unittest.main()
