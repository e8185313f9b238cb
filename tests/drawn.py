"""Terms and declarations that are drawn: mostly with kinds, and the same with a part exchanged."""

from kernelstack.terms import arrow, lifted, parts, with_parts
from samples import NAT, NEXT, PROP, TYPE, V0, V1, ZERO, applied
from stock import BOOL, CONS, EQ, LENGTH, LESS, LIST, NIL, NOT_TRUE, PLUS, REC, REFL, TIMES, TRUE, equal, num

NATS = applied(LIST, NAT)


class Drawer:
    """Draws terms of told kinds, in a context of closed kinds, the nearest first."""

    def __init__(self, chance):
        self.chance = chance

    def kind(self, fuel):
        """Return a closed kind."""
        if fuel <= 0 or self.chance.random() < 0.6:
            return self.chance.choice((NAT, NAT, NAT, BOOL, NATS, ("const", "N")))
        return arrow(self.kind(fuel - 1), self.kind(fuel - 2))

    def term(self, kind, context, fuel):
        """Return a term of a closed kind."""
        ways = [("var", place) for place, one in enumerate(context) if one == kind]
        if ways and self.chance.random() < 0.35:
            return self.chance.choice(ways)
        if fuel > 0 and self.chance.random() < 0.3:
            return self.roundabout(kind, context, fuel)
        if kind[0] == "pi":
            return ("lam", "x", kind[2], self.term(lifted(kind[3], -1), (kind[2],) + context, fuel - 1))
        return self.made(kind, context, fuel)

    def roundabout(self, kind, context, fuel):
        """Return a function applied, a local definition, or a recursor's application, of a kind."""
        inner = self.kind(1)
        way = self.chance.randrange(4)
        value = self.term(inner, context, fuel - 2)
        if way == 0:
            return ("app", ("lam", "y", inner, self.term(kind, (inner,) + context, fuel - 2)), value)
        if way == 1:
            return ("let", "z", inner, value, self.term(kind, (inner,) + context, fuel - 2))
        if way == 2:
            return ("app", self.term(arrow(inner, kind), context, fuel - 2), value)
        return applied(
            REC,
            ("lam", "_", NAT, kind),
            self.term(kind, context, fuel - 2),
            self.term(arrow(NAT, arrow(kind, kind)), context, fuel - 2),
            self.term(NAT, context, fuel - 2),
        )

    def made(self, kind, context, fuel):
        """Return a term of a kind that is no product, by its constructors or functions."""
        if kind == BOOL:
            if fuel <= 0 or self.chance.random() < 0.5:
                return self.chance.choice((TRUE, NOT_TRUE))
            return applied(LESS, self.term(NAT, context, fuel - 2), self.term(NAT, context, fuel - 2))
        if kind == NATS:
            if fuel <= 0 or self.chance.random() < 0.4:
                return applied(NIL, NAT)
            return applied(CONS, NAT, self.term(NAT, context, fuel - 2), self.term(NATS, context, fuel - 2))
        if fuel <= 0 or self.chance.random() < 0.3:
            return self.chance.choice((ZERO, num(1), num(3), ("const", "some"), ("const", "two")))
        way = self.chance.randrange(4)
        if way == 0:
            return applied(NEXT, self.term(NAT, context, fuel - 1))
        if way == 1:
            return applied(LENGTH, NAT, self.term(NATS, context, fuel - 2))
        function = self.chance.choice((PLUS, TIMES))
        return applied(function, self.term(NAT, context, fuel - 2), self.term(NAT, context, fuel - 2))

    def declaration(self, name, fuel):
        """Return a declaration of a definition that is often good."""
        way = self.chance.randrange(4)
        kind = self.kind(2)
        term = self.term(kind, (), fuel)
        if way == 0:
            return ("def", name, kind, term)
        if way == 1:
            return ("def", name, equal(kind, term, term), applied(REFL, kind, term))
        if way == 2:
            return (
                "def",
                name,
                ("pi", "x", kind, applied(EQ, kind, V0, V0)),
                ("lam", "x", kind, applied(REFL, kind, V0)),
            )
        statement = equal(NAT, self.term(NAT, (), fuel), self.term(NAT, (), fuel))
        return ("def", name, statement, applied(REFL, NAT, self.term(NAT, (), fuel)))

    def place_in(self, term):
        """Return the numbers of the parts that lead to a part of a term."""
        path = []
        while parts(term) and self.chance.random() < 0.8:
            at = self.chance.randrange(len(parts(term)))
            path.append(at)
            term = parts(term)[at][0]
        return path

    def exchanged(self, term):
        """Return a term with another part in a place."""
        path = self.place_in(term)
        around = 0
        inner = term
        for at in path:
            inner, under = parts(inner)[at]
            around += under
        return with_part(term, path, self.other(inner, around))

    def other(self, term, around):
        """Return another part than one under so many binders."""
        ones = [
            V0,
            V1,
            ("var", around),
            NAT,
            ZERO,
            TYPE,
            PROP,
            BOOL,
            num(2),
            ("const", "nowhere"),
            ("const", "two"),
            ("rec", "nat", 0),
            REC,
            ("app", NEXT, term),
            ("app", term, ZERO),
            ("lam", "x", NAT, lifted(term, 1)),
            ("pi", "x", NAT, lifted(term, 1)),
            ("let", "x", NAT, ZERO, lifted(term, 1)),
            applied(PLUS, term, ZERO),
            applied(PLUS, ZERO, term),
            applied(("const", "id"), NAT, term),
        ]
        ones.extend(part for part, _ in parts(term))
        if around:
            ones.extend(("var", number) for number in range(around))
        return self.chance.choice(ones)


def with_part(term, path, fresh):
    """Return a term with another part in a place."""
    if not path:
        return fresh
    inner = [part for part, _ in parts(term)]
    inner[path[0]] = with_part(inner[path[0]], path[1:], fresh)
    return with_parts(term, inner)
