import inspect
import unittest

from kernelstack import parser
from kernelstack.errors import TextError
from kernelstack.parser import Reader, depth_of, parse_file, parse_term

A, B, C, X, F = (("name", name) for name in "abcxf")


def deep(before, middle, after, many):
    """Return a text with parts around its middle, so many times."""
    return before * many + middle + after * many


class Parsing(unittest.TestCase):
    def refuse(self, *texts, parse=parse_term):
        """Raise a failure for a text that is not refused."""
        for text in texts:
            with self.assertRaises(TextError, msg=text) as caught:
                parse(text)
            self.assertIs(type(caught.exception), TextError)


class TestTerms(Parsing):
    def test_interface(self):
        for name in ("depth_of", "parse_term", "parse_file"):
            self.assertEqual(getattr(parser, name).__module__, "kernelstack.parser")
        self.assertEqual(str(inspect.signature(Reader)), "(text)")
        self.assertEqual(Reader("x y").place, 0)
        for name in ("here", "proof_step"):
            self.assertIn(name, vars(Reader))

    def test_plain_terms(self):
        for text, told in (
            ("a", A),
            ("_", ("name", "_")),
            ("Prop", ("sort", 0)),
            ("Type", ("sort", 1)),
            ("Type 0", ("sort", 1)),
            ("Type 3", ("sort", 4)),
            ("7", ("number", 7)),
            ("?", ("hole",)),
            ("rec[nat 1]", ("rec", "nat", 1)),
            ("rec [ nat 0 ]", ("rec", "nat", 0)),
            ("(a)", A),
            ("((a))", A),
            ("intro", ("name", "intro")),
        ):
            self.assertEqual(parse_term(text), told)

    def test_names_without_implicit_arguments(self):
        self.assertNotEqual(parse_term("@a"), A)
        self.assertEqual(parse_term("@a"), parse_term("@ a"))
        self.assertEqual(parse_term("@a b"), ("app", parse_term("@a"), B))

    def test_applications(self):
        self.assertEqual(parse_term("a b c"), ("app", ("app", A, B), C))
        self.assertEqual(parse_term("a (b c)"), ("app", A, ("app", B, C)))
        self.assertEqual(parse_term("a ? 1 Prop"), ("app", ("app", ("app", A, ("hole",)), ("number", 1)), ("sort", 0)))
        self.assertEqual(parse_term("(fun x => a) b"), ("app", ("lam", "x", None, A, False), B))
        self.assertEqual(parse_term("rec[nat 1] a"), ("app", ("rec", "nat", 1), A))

    def test_arrows(self):
        self.assertEqual(parse_term("a -> b -> c"), ("arrow", A, ("arrow", B, C)))
        self.assertEqual(parse_term("(a -> b) -> c"), ("arrow", ("arrow", A, B), C))
        self.assertEqual(parse_term("f a -> b"), ("arrow", ("app", F, A), B))
        self.assertEqual(parse_term("a -> forall (x : b), c"), ("arrow", A, ("pi", "x", B, C, False)))

    def test_binders(self):
        self.assertEqual(parse_term("fun (x : a) => b"), ("lam", "x", A, B, False))
        self.assertEqual(parse_term("fun {x : a} => b"), ("lam", "x", A, B, True))
        self.assertEqual(parse_term("fun x => b"), ("lam", "x", None, B, False))
        self.assertEqual(parse_term("forall (x : a), b"), ("pi", "x", A, B, False))
        self.assertEqual(parse_term("forall {x : a}, b"), ("pi", "x", A, B, True))
        self.assertEqual(parse_term("forall x, b"), ("pi", "x", None, B, False))
        self.assertEqual(
            parse_term("fun {f : a} x (b c : x) => a"),
            ("lam", "f", A, ("lam", "x", None, ("lam", "b", X, ("lam", "c", X, A, False), False), False), True),
        )
        self.assertEqual(parse_term("fun x => a -> b"), ("lam", "x", None, ("arrow", A, B), False))

    def test_local_definitions(self):
        self.assertEqual(parse_term("let x : a := b in c"), ("let", "x", A, B, C))
        self.assertEqual(
            parse_term("let x : a -> b := fun x => b in f x"),
            ("let", "x", ("arrow", A, B), ("lam", "x", None, B, False), ("app", F, X)),
        )

    def test_what_is_no_term(self):
        self.refuse(
            "",
            " ",
            "-- a",
            ")",
            "(",
            "(a",
            "a)",
            "()",
            "a ->",
            "-> a",
            "a -> -> b",
            "a => b",
            "fun",
            "fun x",
            "fun => a",
            "fun x a",
            "fun x =>",
            "fun (x a) => b",
            "fun (x :) => b",
            "fun (: a) => b",
            "fun (x : a => b",
            "fun (x : a} => b",
            "fun {x : a) => b",
            "fun {x} => a",
            "fun (x) => a",
            "fun x -> a",
            "fun x, a",
            "forall, a",
            "forall x => a",
            "forall (x : a) b",
            "forall (x : a),",
            "let x : a := b",
            "let x := b in c",
            "let x : a = b in c",
            "let x : a := b in",
            "let : a := b in c",
            "let (x : a) := b in c",
            "in",
            "a := b",
            "a : b",
            "a b;",
            ";",
            "a,b",
            "@",
            "@1",
            "@(a)",
            "@@a",
            "rec",
            "rec nat",
            "rec[nat]",
            "rec[1 nat]",
            "rec[nat 1",
            "rec(nat 1)",
            "rec[@nat 1]",
            "rec[nat -1]",
            "a | b",
            "[a]",
            "{a}",
            "a fun x => b",
            "axiom",
            "by",
            "end",
            "check a",
            "a let x : a := b in c",
            "f (a -> )",
            "Type -1",
            "fun 1 => a",
            "??)",
            "a : Prop",
        )

    def test_signs_exchanged_left_out_and_doubled(self):
        for text in ("fun (x : a) => b", "forall (x : a), b", "let x : a := b in c", "(a)", "a -> b"):
            parse_term(text)
            for sign, others in (
                ("=>", ("->", ":=", ",", "", "=> =>")),
                (" : ", (" ; ", " ", " : : ", " , ")),
                (")", ("", "]", "}", "))")),
                (",", (";", "", ", ,")),
                ("->", ("=>", ":", "-> ->")),
            ):
                for other in others if sign in text else ():
                    self.refuse(text.replace(sign, other, 1))

    def test_numbers_of_more_than_six_digits(self):
        self.assertEqual(parse_term("123456"), ("number", 123456))
        self.assertEqual(parse_term("000001"), ("number", 1))
        self.refuse("1234567", "Type 1234567", "rec[nat 0000001]")


class TestNesting(Parsing):
    def test_sixty_deep(self):
        for before, middle, after in (
            ("(", "a", ")"),
            ("a -> ", "a", ""),
            ("fun x => ", "a", ""),
            ("f (", "a", ")"),
            ("forall (x : a), ", "a", ""),
            ("let x : a := b in ", "a", ""),
            ("fun (x : a) => ", "a", ""),
        ):
            raw = parse_term(deep(before, middle, after, 60))
            self.assertLessEqual(depth_of(raw), 60)
            self.refuse(
                deep(before, middle, after, 61), deep(before, middle, after, 100), deep(before, middle, after, 5000)
            )

    def test_mixed(self):
        parse_term(deep("(a -> ", "a", ")", 30))
        self.refuse(deep("(a -> ", "a", ")", 31))
        parse_term(deep("(fun x => ", "a", ")", 30))
        self.refuse(deep("(fun x => ", "a", ")", 31))

    def test_what_is_not_nested(self):
        parse_term("f" + " a" * 90)
        parse_term("f" + " (a b)" * 90)
        parse_term("fun " + " ".join(f"x{number}" for number in range(90)) + " => a")

    def test_long_texts_that_are_not_nested(self):
        for many in (99, 120, 121, 4000):
            raw = parse_term("f" + " x" * many)
            self.assertLessEqual(depth_of(raw), 60)
            for _ in range(many):
                self.assertEqual((raw[0], raw[2]), ("app", ("name", "x")))
                raw = raw[1]
            self.assertEqual(raw, ("name", "f"))
            raw = parse_term("fun (" + "a " * many + ": nat) => a")
            for _ in range(many):
                self.assertEqual(raw[:3], ("lam", "a", ("name", "nat")))
                raw = raw[3]
            self.assertEqual(raw, ("name", "a"))

    def test_local_definitions_in_kinds_and_values(self):
        for many in (1, 2, 61, 130, 4000):
            raw = parse_term("let x : a := " * many + "b" + " in c" * many)
            self.assertEqual(depth_of(raw), 1)
            for _ in range(many):
                self.assertEqual((raw[:3], raw[4]), (("let", "x", A), ("name", "c")))
                raw = raw[3]
            self.assertEqual(raw, ("name", "b"))
            raw = parse_term("let x : " * many + "a" + " := b in c" * many)
            for _ in range(many):
                self.assertEqual((raw[:2], raw[3:]), (("let", "x"), (("name", "b"), ("name", "c"))))
                raw = raw[2]
            self.assertEqual(raw, A)
        self.assertEqual(
            parse_term("let x : let y : a := b in c := let z : a := b in c in let w : a := b in c"),
            ("let", "x", ("let", "y", A, ("name", "b"), ("name", "c")),
             ("let", "z", A, ("name", "b"), ("name", "c")), ("let", "w", A, ("name", "b"), ("name", "c"))),
        )
        parse_term("let x : a := " * 90 + deep("(", "b", ")", 60) + " in c" * 90)
        self.refuse("let x : a := " * 90 + deep("(", "b", ")", 61) + " in c" * 90,
                    "let x : a := " * 3 + "b" + " in c" * 2, "let x : a := let y : a in c", "let x : let y : a := b",
                    "let x : a := b in " * 60 + "let y : a := b in c", "(let x : a := b in " * 31 + "c" + ")" * 31)

    def test_in_declarations(self):
        for many in (60, 61):
            text = "axiom x : " + "a -> " * many + "a;"
            if many == 60:
                parse_file(text)
            else:
                self.refuse(text, parse=parse_file)

    def test_depth(self):
        for text, told in (
            ("a", 0),
            ("a b c", 0),
            ("a (b c)", 1),
            ("a -> b", 1),
            ("a -> b -> c", 2),
            ("(a -> b) -> c", 2),
            ("fun x => a", 1),
            ("fun (x : a -> b) => x", 2),
            ("let x : a := b in c", 1),
            ("((a))", 0),
        ):
            self.assertEqual(depth_of(parse_term(text)), told, text)
        raw = A
        for _ in range(100000):
            raw = ("arrow", A, raw)
        self.assertGreater(depth_of(raw), 60)


class TestDeclarations(Parsing):
    def test_axioms(self):
        self.assertEqual(parse_file("axiom x : a;"), (("axiom", "x", A),))
        self.assertEqual(parse_file("axiom x : a; axiom y : b;\n-- end\n"), (("axiom", "x", A), ("axiom", "y", B)))
        self.assertEqual(parse_file(""), ())
        self.assertEqual(parse_file(" -- nothing"), ())

    def test_definitions_and_theorems(self):
        self.assertEqual(parse_file("def f : a := b;")[0][:2], ("def", "f"))
        rows = (("x", A, True), ("b", C, False), ("c", C, False), ("y", None, False))
        self.assertEqual(parse_file("def f {x : a} (b c : c) y : a := b;"), (("def", "f", rows, A, B),))
        self.assertEqual(parse_file("theorem f : a := b;")[0][:5], ("theorem", "f", (), A, B))
        self.assertEqual(
            parse_file("theorem f (x : a) : a by intro x y, assumption;")[0],
            ("theorem", "f", (("x", A, False),), A, None, (("intro", ("x", "y")), ("assumption",))),
        )

    def test_data(self):
        self.assertEqual(parse_file("data d : Type end;"), (("data", "d", (), ("sort", 1), ()),))
        self.assertEqual(
            parse_file("data d {x : a} : a -> Prop | c | f (x : a) : b end;"),
            (
                (
                    "data",
                    "d",
                    (("x", A, True),),
                    ("arrow", A, ("sort", 0)),
                    (("c", (), None), ("f", (("x", A, False),), B)),
                ),
            ),
        )
        self.assertEqual(len(parse_file("data d : Type | c end data e : Type end axiom x : a;")), 3)

    def test_what_is_no_declaration(self):
        self.refuse(
            "a",
            ";",
            "axiom",
            "axiom x",
            "axiom x :",
            "axiom x : ;",
            "axiom : a;",
            "axiom x a;",
            "axiom x : a",
            "axiom x := a;",
            "axiom x : a;;",
            "axiom x (y : a) : b;",
            "axiom 1 : a;",
            "axiom Prop : a;",
            "axiom x y : a;",
            "axiom x : a axiom y : b;",
            "axiom x : a, axiom y : b;",
            "def x : a;",
            "def x := a;",
            "def x : a = b;",
            "def x : a := ;",
            "def x : a := b",
            "def : a := b;",
            "def x : a : b;",
            "def x : a by decide;",
            "theorem x : a;",
            "theorem x : a by;",
            "theorem x : a by foo;",
            "theorem x : a by intro;",
            "theorem x : a by intro x",
            "theorem x : a by intro x,;",
            "theorem x : a by , intro x;",
            "theorem x : a := b by decide;",
            "theorem x : a by exact;",
            "theorem x : a by decide assumption;",
            "data d | c end;",
            "data d : Type",
            "data d : Type | c",
            "data d : Type | end;",
            "data d : Type || c end;",
            "data : Type end;",
            "data d : Type | c : end;",
            "data d : Type | c (x) end;",
            "data d : Type end end;",
            "data d : Type := a;",
            "data d : Type end;;",
            "theorem by x : a := b;",
            "check x",
            "eval x;",
            "let x : a := b in c;",
            "import x;",
            parse=parse_file,
        )


class TestSteps(Parsing):
    def test_steps(self):
        for text, told in (
            ("intro x y", ("intro", ("x", "y"))),
            ("exact f a", ("exact", ("app", F, A))),
            ("apply f", ("apply", F)),
            ("cases x", ("cases", X)),
            ("induction x", ("induction", X)),
            ("show a -> b", ("show", ("arrow", A, B))),
            ("have x : a", ("have", "x", A)),
            ("assumption", ("assumption",)),
            ("search 3", ("search", 3)),
            ("reckon", ("reckon",)),
            ("unfold", ("unfold",)),
            ("decide", ("decide",)),
        ):
            reader = Reader(text)
            self.assertEqual(reader.proof_step(), told)
            self.assertEqual(reader.here(), "end of text")

    def test_what_is_no_step(self):
        for text in (
            "",
            "foo",
            "intro",
            "exact",
            "apply",
            "have",
            "have x",
            "have x a",
            "have : a",
            "search",
            "search x",
            "fun",
            "1",
            "show",
            "cases",
            ", intro x",
            "Intro x",
            "exact (a",
        ):
            reader = Reader(text)
            with self.assertRaises(TextError):
                reader.proof_step()
            self.assertEqual(reader.place, 0)

    def test_here(self):
        reader = Reader("intro x, decide")
        self.assertEqual(reader.here(), Reader("y").here())
        reader.proof_step()
        self.assertEqual(reader.here(), ",")
        self.assertEqual(reader.place, 2)


if __name__ == "__main__":
    unittest.main()
