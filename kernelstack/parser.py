"""Parser: texts to raw terms, declarations and proof scripts.

Raw terms are like terms, but variables and constants are ("name", name), and there are ("hole",), ("arrow", a, b) and
("number", n). Binders may be implicit: ("pi", name, kind or None, body, implicit), ("lam", ..) likewise. A name without
implicit arguments is ("explicit", name).

Raw declarations, with (name, kind or None, implicit) rows: ("axiom", name, kind), ("def", name, rows, kind, value),
("theorem", name, rows, kind, value or None, steps) and ("data", name, rows, kind, constructors), a constructor being
(name, rows, term or None). A step is (word, what it needs ..).
"""

from kernelstack.errors import TermError, TextError
from kernelstack.lexer import END, tokenize
from kernelstack.terms import MOST_DEEP, MOST_LEVEL

MOST_OPEN = 60

ATOMS = ("name", "number", "Prop", "Type", "?", "@", "rec", "(")
TERM_STEPS = ("exact", "apply", "cases", "induction", "show")
BARE_STEPS = ("assumption", "reckon", "unfold", "decide")


class Reader:
    """Tokens, a place in them, and how many parts are open."""

    def __init__(self, text):
        self.tokens = tokenize(text)
        self.place = 0
        self.opened = 0

    def here(self):
        """Return the class of the token at the place."""
        return self.tokens[self.place].kind

    def take(self, kind):
        """Move past a token of a class and return its text; raise TextError for another one."""
        token = self.tokens[self.place]
        if token.kind != kind:
            raise TextError(f"{kind} is missing at {token.place}")
        if kind != END:
            self.place += 1
        return token.text

    def number(self):
        """Move past a number and return it."""
        return int(self.take("number"))

    def inner_term(self):
        """Parse a term within brackets, on the right side of an arrow, or as a body."""
        self.opened += 1
        if self.opened > MOST_OPEN:
            raise TextError("a text is nested too deep")
        raw = self.read_term()
        self.opened -= 1
        return raw

    def read_term(self):
        """Parse a term."""
        # Local definitions in kinds and values of others wait here, with what is read of them: these do not count as
        # nested, so that there may be any number of them.
        waiting = []
        while True:
            if self.here() == "let":
                waiting.append(self.begun_definition())
                continue
            raw = self.plain_term()
            while waiting:
                row = waiting[-1]
                row.append(raw)
                if len(row) == 2:
                    self.take(":=")
                    break
                self.take("in")
                waiting.pop()
                raw = ("let", row[0], row[1], row[2], self.inner_term())
            else:
                return raw

    def begun_definition(self):
        """Parse a local definition up to its kind, and return a list of its name."""
        self.take("let")
        name = self.take("name")
        self.take(":")
        return [name]

    def plain_term(self):
        """Parse a term that begins with no local definition."""
        word = self.here()
        if word == "fun":
            return self.under_rows("fun", "=>", "lam")
        if word == "forall":
            return self.under_rows("forall", ",", "pi")
        left = self.application()
        if self.here() != "->":
            return left
        self.take("->")
        return ("arrow", left, self.inner_term())

    def under_rows(self, word, sign, binder):
        """Parse a word, rows, a sign and a body."""
        self.take(word)
        rows = self.read_rows()
        if rows == ():
            raise TextError(f"rows are missing behind {word}")
        self.take(sign)
        return bound(binder, rows, self.inner_term())

    def read_rows(self):
        """Parse rows, and return (name, kind or None, implicit) for each name."""
        found = []
        while self.here() in ("name", "(", "{"):
            if self.here() == "name":
                found.append((self.take("name"), None, False))
            else:
                found.extend(self.row())
        return tuple(found)

    def row(self):
        """Parse a row in brackets."""
        implicit = self.here() == "{"
        self.take("{" if implicit else "(")
        names = self.names()
        self.take(":")
        kind = self.inner_term()
        self.take("}" if implicit else ")")
        return [(name, kind, implicit) for name in names]

    def names(self):
        """Parse names, at least one."""
        found = [self.take("name")]
        while self.here() == "name":
            found.append(self.take("name"))
        return found

    def application(self):
        """Parse a term that has no arrow outside of brackets."""
        raw = self.atom()
        while self.here() in ATOMS:
            raw = ("app", raw, self.atom())
        return raw

    def atom(self):
        """Parse a term that needs no brackets, or one in brackets."""
        word = self.here()
        if word == "name":
            return ("name", self.take("name"))
        if word == "number":
            return ("number", self.number())
        if word == "(":
            self.take("(")
            raw = self.inner_term()
            self.take(")")
            return raw
        if word == "rec":
            return self.recursor()
        if word not in ATOMS:
            raise TextError(f"a term is missing at {self.tokens[self.place].place}")
        self.take(word)
        if word == "@":
            return ("explicit", self.take("name"))
        if word == "?":
            return ("hole",)
        if word == "Prop":
            return ("sort", 0)
        return ("sort", self.number() + 1 if self.here() == "number" else 1)

    def recursor(self):
        """Parse a recursor."""
        self.take("rec")
        self.take("[")
        name = self.take("name")
        level = self.number()
        self.take("]")
        return ("rec", name, level)

    def declaration(self):
        """Parse a declaration and the sign behind it, which may be left out behind data."""
        word = self.here()
        if word == "data":
            found = self.read_data()
            if self.here() == ";":
                self.take(";")
            return found
        if word == "axiom":
            self.take("axiom")
            name = self.take("name")
            self.take(":")
            found = ("axiom", name, self.read_term())
        elif word in ("def", "theorem"):
            found = self.definition(word)
        else:
            raise TextError(f"no declaration begins at {self.tokens[self.place].place}")
        self.take(";")
        return found

    def definition(self, word):
        """Parse a definition or a theorem."""
        self.take(word)
        name = self.take("name")
        rows = self.read_rows()
        self.take(":")
        kind = self.read_term()
        if word == "theorem" and self.here() == "by":
            return (word, name, rows, kind, None, self.read_steps())
        self.take(":=")
        value = self.read_term()
        return (word, name, rows, kind, value) if word == "def" else (word, name, rows, kind, value, ())

    def claim(self):
        """Parse what is claimed: a name, rows and a statement."""
        name = self.take("name")
        rows = self.read_rows()
        self.take(":")
        return ("claim", name, rows, self.read_term())

    def read_data(self):
        """Parse data."""
        self.take("data")
        name = self.take("name")
        rows = self.read_rows()
        self.take(":")
        kind = self.read_term()
        constructors = []
        while self.here() == "|":
            constructors.append(self.constructor())
        self.take("end")
        return ("data", name, rows, kind, tuple(constructors))

    def constructor(self):
        """Parse a constructor."""
        self.take("|")
        name = self.take("name")
        rows = self.read_rows()
        if self.here() != ":":
            return (name, rows, None)
        self.take(":")
        return (name, rows, self.read_term())

    def read_steps(self):
        """Parse the steps of a proof."""
        self.take("by")
        found = [self.proof_step()]
        while self.here() == ",":
            self.take(",")
            found.append(self.proof_step())
        return tuple(found)

    def proof_step(self):
        """Parse a step: a word, and what it needs; raise TextError for another word."""
        place = self.place
        try:
            return self.read_step()
        except TextError:
            self.place = place
            self.opened = 0
            raise

    def read_step(self):
        """Parse a step, and stay in the middle of one that is none."""
        word = self.take("name")
        if word in TERM_STEPS:
            return (word, self.read_term())
        if word in BARE_STEPS:
            return (word,)
        if word == "intro":
            return (word, tuple(self.names()))
        if word == "search":
            return (word, self.number())
        if word == "have":
            name = self.take("name")
            self.take(":")
            return (word, name, self.read_term())
        raise TextError(f"{word} is no step")


def bound(binder, rows, body):
    """Return a raw term under the binders of rows."""
    for name, kind, implicit in reversed(rows):
        body = (binder, name, kind, body, implicit)
    return body


def raw_parts(raw):
    """Return (part, 1 if a text of the raw term has it nested, 0 else) of a raw term's direct parts."""
    word = raw[0]
    if word == "app":
        return ((raw[1], 0 if raw[1][0] == "app" else bracketed(raw[1])), (raw[2], bracketed(raw[2])))
    if word == "arrow":
        return ((raw[1], 0 if raw[1][0] == "app" else bracketed(raw[1])), (raw[2], 1))
    if word in ("pi", "lam"):
        return ((raw[3], 1),) if raw[2] is None else ((raw[2], 1), (raw[3], 1))
    if word == "let":
        return ((raw[2], 0), (raw[3], 0), (raw[4], 1))
    return ()


def bracketed(raw):
    """Return 1 for a raw term that needs brackets as an argument, 0 for another one."""
    return 0 if raw_is_atom(raw) else 1


def raw_is_atom(raw):
    """Return True for a raw term without parts."""
    return raw[0] not in ("app", "arrow", "pi", "lam", "let")


def depth_of(raw):
    """Return how deep a raw term is nested, or a number above the most if it is nested more."""
    deepest = 0
    waiting = [(raw, 0)]
    while waiting and deepest <= MOST_OPEN:
        one, depth = waiting.pop()
        deepest = max(deepest, depth)
        waiting.extend([(part, depth + under) for part, under in raw_parts(one)])
    return deepest


def need_term(raw):
    """Raise TermError for a raw term that can tell no term, with too many levels or a level that there is not."""
    waiting = [(raw, 1)]
    while waiting:
        one, depth = waiting.pop()
        if depth > MOST_DEEP or (one[0] in ("sort", "rec") and one[-1] > MOST_LEVEL):
            raise TermError("a text tells no term")
        waiting.extend([(part, depth + 1) for part, _ in raw_parts(one)])


def parse_term(text):
    """Return the raw term of a text; raise TextError."""
    reader = Reader(text)
    raw = reader.read_term()
    reader.take(END)
    return raw


def parse_file(text):
    """Return the raw declarations of a text, in order; raise TextError."""
    reader = Reader(text)
    found = []
    while reader.here() != END:
        found.append(reader.declaration())
    return tuple(found)
