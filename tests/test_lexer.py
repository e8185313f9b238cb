import inspect
import unittest

from kernelstack import lexer
from kernelstack.errors import TextError
from kernelstack.lexer import SIGNS, Token, skip_blanks, token_at, tokenize
from kernelstack.signature import WORDS


def texts(text):
    """Return the texts of the tokens of a text, but for the last one."""
    return [token.text for token in tokenize(text)[:-1]]


class TestTokens(unittest.TestCase):
    def test_interface(self):
        self.assertEqual(SIGNS, ("->", "=>", ":=", "(", ")", "{", "}", ":", ",", ";", "|", "@", "?", "[", "]"))
        for name, told in {
            "Token": "(kind, text, place)",
            "skip_blanks": "(text, place)",
            "token_at": "(text, place)",
            "tokenize": "(text)",
        }.items():
            self.assertEqual(str(inspect.signature(getattr(lexer, name))), told)
        token = Token("name", "x", 3)
        self.assertEqual((token.kind, token.text, token.place), ("name", "x", 3))
        self.assertEqual(token.shown(), ("name", "x", 3))

    def test_each_token(self):
        for text in SIGNS + WORDS + ("x", "_", "x'", "a.b", "x1", "0", "123456", "Props", "end'", "_1"):
            token = token_at(text, 0)
            self.assertEqual((token.text, token.place), (text, 0))
            self.assertEqual(texts(text), [text])
            self.assertEqual(texts(f" {text} {text}"), [text, text])

    def test_classes_tell_tokens_apart(self):
        kinds = [token_at(text, 0).kind for text in SIGNS + WORDS]
        self.assertEqual(len(set(kinds)), len(kinds))
        self.assertEqual(token_at("abc", 0).kind, token_at("x'", 0).kind)
        self.assertEqual(token_at("0", 0).kind, token_at("99", 0).kind)
        self.assertNotEqual(token_at("x", 0).kind, token_at("1", 0).kind)

    def test_places(self):
        self.assertEqual(
            [(token.text, token.place) for token in tokenize("def x:nat\n := -- one\n  12->y")[:-1]],
            [("def", 0), ("x", 4), (":", 5), ("nat", 6), (":=", 11), ("12", 23), ("->", 25), ("y", 27)],
        )
        self.assertEqual(token_at("ab cd", 3).shown(), token_at("ab cd", 3).shown())
        self.assertEqual(token_at("ab cd", 3).place, 3)
        self.assertEqual(token_at("ab cd", 1).text, "b")

    def test_the_last_token(self):
        for text, place in (("", 0), ("x", 1), ("x  ", 3), ("-- all", 6), ("x -- y\n", 7)):
            last = tokenize(text)[-1]
            self.assertEqual((last.kind, last.place), ("end of text", place))
        self.assertEqual(len(tokenize("")), 1)

    def test_what_stands_side_by_side(self):
        self.assertEqual(texts("a->b=>c:=d:e"), ["a", "->", "b", "=>", "c", ":=", "d", ":", "e"])
        self.assertEqual(texts("({[|@?]})"), ["(", "{", "[", "|", "@", "?", "]", "}", ")"])
        self.assertEqual(texts("12ab"), ["12", "ab"])
        self.assertEqual(texts("x.y'z_1"), ["x.y'z_1"])
        self.assertEqual(texts("->->"), ["->", "->"])

    def test_what_is_no_token(self):
        for text in (
            "-",
            "=",
            "#",
            "%",
            "<",
            "!",
            "'",
            ".",
            "\u00e9",
            "a = b",
            "a - b",
            "a -",
            '"x"',
            "a & b",
            "x\u00e9",
        ):
            with self.assertRaises(TextError):
                tokenize(text)
        for text, place in (("", 0), ("a", 1), (" a", 0), ("#", 0)):
            with self.assertRaises(TextError):
                token_at(text, place)

    def test_numbers(self):
        self.assertEqual(texts("000001 999999"), ["000001", "999999"])
        for text in ("1234567", "0000000", "x 1234567"):
            with self.assertRaises(TextError):
                tokenize(text)

    def test_blanks_and_comments(self):
        self.assertEqual(skip_blanks("  \n x", 0), 4)
        self.assertEqual(skip_blanks("x", 0), 0)
        self.assertEqual(skip_blanks("x  y", 1), 3)
        self.assertEqual(skip_blanks("-- a\n-- b\n c", 0), 11)
        self.assertEqual(skip_blanks("-- a", 0), 4)
        self.assertEqual(skip_blanks("", 0), 0)
        self.assertEqual(skip_blanks("->", 0), 0)
        self.assertEqual(texts("a -- b # \u00e9\nc--d"), ["a", "c"])
        self.assertEqual(texts("a ---> b"), ["a"])


if __name__ == "__main__":
    unittest.main()
