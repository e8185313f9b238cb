"""Terms for the tests, and terms with names instead of numbers, in which nothing needs lifting."""

import itertools

V0, V1, V2, V3 = (("var", number) for number in range(4))
PROP, TYPE, TYPE1 = (("sort", level) for level in range(3))
NAT, ZERO, NEXT = ("const", "nat"), ("const", "O"), ("const", "S")
REC = ("rec", "nat", 1)

LEAVES = (V0, V1, V3, TYPE, NAT, REC)


def over(ones):
    """Return terms of each form that has parts, over all pairs of some terms."""
    made = []
    for one, other in itertools.product(ones, repeat=2):
        made.append(("pi", "x", one, other))
        made.append(("lam", "y", one, other))
        made.append(("app", one, other))
        made.append(("let", "z", one, other, one))
        made.append(("let", "z", other, one, other))
    return made


SIMPLE = tuple(over(LEAVES))
# Every form within every form, with variables that are free, bound next to them and bound further out.
NESTED = tuple(over((("lam", "a", V0, ("app", V0, V1)), ("pi", "b", NAT, V2), ("let", "c", V0, V1, ("app", V0, V2)),
                     ("app", V1, REC), V0, V2)))
SAMPLES = LEAVES + (V2, PROP) + SIMPLE + NESTED


def chain(levels):
    """Return a term that stands so many levels deep."""
    term = V0
    for _ in range(levels - 1):
        term = ("lam", "x", NAT, term)
    return term


def broad(many):
    """Return a term of so many nodes, not 0 or 2, that is as flat as it can be."""
    if many == 1:
        return V0
    if many % 2 == 0:
        return ("let", "x", V0, V0, broad(many - 3))
    half = (many - 1) // 2
    if half % 2 == 0:
        return ("app", broad(half - 1), broad(half + 1))
    return ("app", broad(half), broad(half))


def depth_of(term):
    """Return how many levels a term has."""
    return 1 + max((depth_of(part) for part in term if isinstance(part, tuple)), default=0)


# Named terms are terms whose variables are strings, no two binders having the same name.

FREE = tuple(f"free {number}" for number in range(30))


def to_names(term, names=FREE, count=None):
    """Return the named term of a term whose free variables have names, the nearest first."""
    count = itertools.count() if count is None else count
    if term[0] == "var":
        return names[term[1]]
    if term[0] in ("sort", "const", "rec"):
        return term
    if term[0] == "app":
        return ("app", to_names(term[1], names, count), to_names(term[2], names, count))
    fresh = f"{term[1]} {next(count)}"
    outer = tuple(to_names(part, names, count) for part in term[2:-1])
    return (term[0], fresh) + outer + (to_names(term[-1], (fresh,) + tuple(names), count),)


def to_numbers(term, names=()):
    """Return the term of a named term; a binder's name is kept up to a blank in it."""
    if isinstance(term, str):
        return ("var", names.index(term))
    if term[0] in ("sort", "const", "rec"):
        return term
    if term[0] == "app":
        return ("app", to_numbers(term[1], names), to_numbers(term[2], names))
    outer = tuple(to_numbers(part, names) for part in term[2:-1])
    return (term[0], term[1].partition(" ")[0]) + outer + (to_numbers(term[-1], (term[1],) + tuple(names)),)


def exchanged(term, table):
    """Return a named term with named terms in the places of some names."""
    if isinstance(term, str):
        return table.get(term, term)
    if term[0] in ("sort", "const", "rec"):
        return term
    start = 1 if term[0] == "app" else 2
    return term[:start] + tuple(exchanged(part, table) for part in term[start:])


def applied(*ones):
    """Return the application of a term to others."""
    term = ones[0]
    for one in ones[1:]:
        term = ("app", term, one)
    return term


def products(rows, body):
    """Return products over (name, kind) rows in a body."""
    for name, kind in reversed(rows):
        body = ("pi", name, kind, body)
    return body


def all_nodes(term):
    """Return all nodes of a named term, in order."""
    found = [term]
    if not isinstance(term, str) and term[0] not in ("sort", "const", "rec"):
        for part in term[1 if term[0] == "app" else 2:]:
            found.extend(all_nodes(part))
    return found
