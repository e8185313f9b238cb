"""Declarations for the tests: data of every form, and functions over them."""

from kernelstack.checker import check_all
from kernelstack.terms import arrow
from naive_kernel import Naive
from samples import NAT, NEXT, PROP, TYPE, V0, V1, V2, V3, ZERO, applied
from test_data import ALL as DATA_ROWS

BOOL, LIST, TREE, ORD, VEC, EQ, FALSE, PAIR = (
    ("const", name) for name in ("bool", "list", "tree", "ord", "vec", "eq", "false", "pair")
)
TRUE, NOT_TRUE, NIL, CONS, REFL = (("const", name) for name in ("true", "false_b", "nil", "cons", "refl"))
PLUS, TIMES, LESS, LENGTH = (("const", name) for name in ("plus", "times", "less", "length"))


def lam(*parts):
    """Return a function of (name, kind) rows in the last part."""
    rows, body = parts[:-1], parts[-1]
    for name, kind in reversed(rows):
        body = ("lam", name, kind, body)
    return body


def pi(*parts):
    """Return a product over (name, kind) rows in the last part."""
    rows, body = parts[:-1], parts[-1]
    for name, kind in reversed(rows):
        body = ("pi", name, kind, body)
    return body


def to(*kinds):
    """Return the kind of functions from closed kinds to the last one."""
    made = kinds[-1]
    for kind in reversed(kinds[:-1]):
        made = arrow(kind, made)
    return made


def num(number):
    """Return a number as a term."""
    term = ZERO
    for _ in range(number):
        term = ("app", NEXT, term)
    return term


def equal(kind, one, other):
    """Return the statement that two terms of a kind are equal."""
    return applied(EQ, kind, one, other)


def into(kind):
    """Return the goal of numbers that is always a closed kind."""
    return lam(("_", NAT), kind)


REC = ("rec", "nat", 1)
PLUS_BODY = lam(("n", NAT), ("m", NAT), applied(REC, into(NAT), V0, lam(("k", NAT), ("h", NAT), applied(NEXT, V0)), V1))
TIMES_BODY = lam(
    ("n", NAT), ("m", NAT), applied(REC, into(NAT), ZERO, lam(("k", NAT), ("h", NAT), applied(PLUS, V2, V0)), V1)
)
LESS_BODY = applied(
    REC,
    lam(("_", NAT), arrow(NAT, BOOL)),
    lam(("m", NAT), TRUE),
    lam(
        ("k", NAT),
        ("h", arrow(NAT, BOOL)),
        ("m", NAT),
        applied(REC, into(BOOL), NOT_TRUE, lam(("j", NAT), ("_", BOOL), applied(V3, V1)), V0),
    ),
)
LENGTH_BODY = lam(
    ("A", TYPE),
    applied(
        ("rec", "list", 1),
        V0,
        lam(("_", applied(LIST, V0)), NAT),
        ZERO,
        lam(("a", V0), ("l", applied(LIST, V1)), ("h", NAT), applied(NEXT, V0)),
    ),
)

ROWS = tuple(data.shown() for data in DATA_ROWS) + (
    ("data", "bool", (), (), 1, (("true", (), ()), ("false_b", (), ()))),
    ("data", "pair", (("A", TYPE), ("B", TYPE)), (), 1, (("both", (("a", V1), ("b", V1)), ()),)),
    ("axiom", "P", arrow(NAT, PROP)),
    ("axiom", "some", NAT),
    ("axiom", "way", to(NAT, NAT)),
    ("def", "N", TYPE, NAT),
    ("def", "two", NAT, num(2)),
    ("def", "plus", to(NAT, NAT, NAT), PLUS_BODY),
    ("def", "times", to(NAT, NAT, NAT), TIMES_BODY),
    ("def", "less", to(NAT, NAT, BOOL), LESS_BODY),
    ("def", "length", pi(("A", TYPE), arrow(applied(LIST, V0), NAT)), LENGTH_BODY),
    ("def", "id", pi(("A", TYPE), arrow(V0, V0)), lam(("A", TYPE), ("a", V0), V0)),
    (
        "def",
        "plus_zero",
        pi(("n", NAT), equal(NAT, applied(PLUS, V0, ZERO), V0)),
        applied(
            ("rec", "nat", 0),
            lam(("n", NAT), equal(NAT, applied(PLUS, V0, ZERO), V0)),
            applied(REFL, NAT, ZERO),
            lam(
                ("n", NAT),
                ("h", equal(NAT, applied(PLUS, V0, ZERO), V0)),
                applied(
                    ("rec", "eq", 0),
                    NAT,
                    applied(PLUS, V1, ZERO),
                    lam(
                        ("b", NAT),
                        ("_", equal(NAT, applied(PLUS, V2, ZERO), V0)),
                        equal(NAT, applied(NEXT, applied(PLUS, V3, ZERO)), applied(NEXT, V1)),
                    ),
                    applied(REFL, NAT, applied(NEXT, applied(PLUS, V1, ZERO))),
                    V1,
                    V0,
                ),
            ),
        ),
    ),
)

SIGNATURE = check_all(ROWS)


def stock():
    """Return a fresh signature of the declarations."""
    return SIGNATURE.copied()


def naive_stock():
    """Return a naive kernel of the declarations."""
    naive = Naive()
    for row in ROWS:
        naive.add(row)
    return naive
