"""A naive kernel for the tests: values are put in by hand, normal terms are compared, and nothing is kept."""

from kernelstack.data import Data, constructor_kind, data_kind, recursive_fields, recursor_kind
from kernelstack.terms import (
    all_pis,
    apply,
    arrow,
    binders,
    lifted,
    parts,
    pi_level,
    put_in,
    put_in_all,
    same,
    spine,
    split_pis,
    uses_name,
    variables,
    with_parts,
)


class Refused(Exception):
    """A term has no kind, or a declaration may not be added."""


class TooMuch(Exception):
    """A term takes too many steps."""


class Naive:
    """Declarations that were found good, and how many steps were made for the last one."""

    def __init__(self):
        self.kinds, self.bodies, self.data, self.owners = {}, {}, {}, {}
        self.steps = 0

    def copied(self):
        """Return a naive kernel of the same declarations."""
        other = Naive()
        for name in ("kinds", "bodies", "data", "owners"):
            setattr(other, name, dict(getattr(self, name)))
        return other

    def step(self):
        """Count a step."""
        self.steps += 1
        if self.steps > 300000:
            raise TooMuch()

    def head_normal(self, term):
        """Return a term reckoned until its head cannot be reckoned."""
        while True:
            self.step()
            head, arguments = spine(term)
            if head[0] == "let":
                term = apply(put_in(head[4], head[3]), arguments)
            elif head[0] == "lam" and arguments:
                term = apply(put_in(head[3], arguments[0]), arguments[1:])
            elif head[0] == "const" and head[1] in self.bodies:
                term = apply(self.bodies[head[1]], arguments)
            elif head[0] == "rec" and self.recursion(head, arguments) is not None:
                term = self.recursion(head, arguments)
            else:
                return term

    def recursion(self, head, arguments):
        """Return what a recursor applied to arguments is by its law, None if it is stuck."""
        data = self.data[head[1]]
        many, cases, indices = len(data.params), len(data.constructors), len(data.indices)
        needed = many + cases + indices + 2
        if len(arguments) < needed:
            return None
        made, given = spine(self.head_normal(arguments[needed - 1]))
        if made[0] != "const" or self.owners.get(made[1]) != data.name:
            return None
        number = [row[0] for row in data.constructors].index(made[1])
        fields = given[many:]
        term = apply(arguments[many + 1 + number], fields)
        for place in recursive_fields(data, number):
            kind = put_in_all(data.constructors[number][1][place][1], arguments[:many] + fields[:place])
            rows, end = all_pis(kind)
            moved = [lifted(one, len(rows)) for one in arguments[: many + 1 + cases]]
            field = apply(lifted(fields[place], len(rows)), variables(len(rows)))
            term = ("app", term, binders("lam", rows, apply(head, moved + spine(end)[1][many:] + [field])))
        return apply(term, arguments[needed:])

    def normal(self, term):
        """Return the normal term of a term."""
        term = self.head_normal(term)
        return with_parts(term, [self.normal(part) for part, _ in parts(term)])

    def level_of(self, term, context):
        """Return the level of a kind."""
        kind = self.kind_of(term, context)
        if kind[0] != "sort":
            raise Refused(term)
        return kind[1]

    def kind_of(self, term, context):
        """Return the normal kind of a term; context has the kinds of variables, each seeing those behind it."""
        word = term[0]
        if word == "var":
            if term[1] >= len(context):
                raise Refused(term)
            return self.normal(lifted(context[term[1]], term[1] + 1))
        if word == "sort":
            if term[1] >= 12:
                raise Refused(term)
            return ("sort", term[1] + 1)
        if word == "const":
            if term[1] not in self.kinds:
                raise Refused(term)
            return self.normal(self.kinds[term[1]])
        if word == "rec":
            if term[1] not in self.data or (self.data[term[1]].level == 0 and term[2] != 0):
                raise Refused(term)
            return self.normal(recursor_kind(self.data[term[1]], term[2]))
        if word == "app":
            function = self.kind_of(term[1], context)
            if function[0] != "pi" or not same(function[2], self.kind_of(term[2], context)):
                raise Refused(term)
            return self.normal(put_in(function[3], term[2]))
        one = self.level_of(term[2], context)
        if word == "pi":
            return ("sort", pi_level(one, self.level_of(term[3], (term[2],) + context)))
        if word == "lam":
            return ("pi", term[1], self.normal(term[2]), self.kind_of(term[3], (term[2],) + context))
        if not same(self.kind_of(term[3], context), self.normal(term[2])):
            raise Refused(term)
        return self.kind_of(put_in(term[4], term[3]), context)

    def add(self, declaration):
        """Check a declaration of good form and add it."""
        self.steps = 0
        if declaration[0] == "data":
            self.add_data(Data(*declaration[1:]))
            return
        if declaration[1] in self.kinds:
            raise Refused(declaration)
        self.level_of(declaration[2], ())
        if declaration[0] == "def":
            if not same(self.kind_of(declaration[3], ()), self.normal(declaration[2])):
                raise Refused(declaration)
            self.bodies[declaration[1]] = declaration[3]
        self.kinds[declaration[1]] = declaration[2]

    def add_data(self, data):
        """Check data and add it."""
        names = [data.name] + [row[0] for row in data.constructors]
        if len(set(names)) < len(names) or any(name in self.kinds for name in names):
            raise Refused(data.name)
        if any(uses_name(kind, data.name) for _, kind in data.params + data.indices):
            raise Refused(data.name)
        wider = self.copied()
        wider.level_of(data_kind(data), ())
        wider.kinds[data.name] = data_kind(data)
        for number, row in enumerate(data.constructors):
            if len(row[2]) != len(data.indices) or any(uses_name(target, data.name) for target in row[2]):
                raise Refused(data.name)
            kind = constructor_kind(data, number)
            wider.level_of(kind, ())
            context = tuple(one for _, one in reversed(split_pis(kind, len(data.params))[0]))
            for place, (_, field) in enumerate(row[1]):
                if data.level > 0 and wider.level_of(field, context) > data.level:
                    raise Refused(data.name)
                if uses_name(field, data.name):
                    self.need_last(data, place, field)
                context = (field,) + context
        for number, row in enumerate(data.constructors):
            wider.kinds[row[0]] = constructor_kind(data, number)
            wider.owners[row[0]] = data.name
        self.kinds, self.owners = wider.kinds, wider.owners
        self.data[data.name] = data

    def need_last(self, data, place, field):
        """Refuse a field in whose kind the data stands where it may not."""
        rows, end = all_pis(field)
        head, arguments = spine(end)
        good = head == ("const", data.name) and len(arguments) == len(data.params) + len(data.indices)
        for _, inner in rows + [("", one) for one in arguments]:
            good = good and not uses_name(inner, data.name)
        if not good or arguments[: len(data.params)] != variables(len(data.params), place + len(rows)):
            raise Refused(field)


def accepts(naive, declaration):
    """Return whether a naive kernel would add a declaration, None if it takes too many steps; nothing is added."""
    try:
        naive.copied().add(declaration)
    except Refused:
        return False
    except (TooMuch, RecursionError):
        return None
    return True


def statement_of(kind, *kinds):
    """Return the kind of functions from kinds to the last one, none of which has free variables."""
    rows = [kind, *kinds]
    made = rows.pop()
    for one in reversed(rows):
        made = arrow(one, made)
    return made
