"""A naive checker for the tests: values are put in by hand, and normal terms are compared."""

from kernelstack.terms import lifted, parts, pi_level, put_in, same, with_parts


class NoKind(Exception):
    """A term has no kind."""


def normal(term):
    """Return a term in which all functions are applied and all local definitions put in."""
    if term[0] == "let":
        return normal(put_in(term[4], term[3]))
    term = with_parts(term, [normal(part) for part, _ in parts(term)])
    if term[0] == "app" and term[1][0] == "lam":
        return normal(put_in(term[1][3], term[2]))
    return term


def level_of(term, context, kinds):
    """Return the level of a kind."""
    kind = kind_of(term, context, kinds)
    if kind[0] != "sort":
        raise NoKind(term)
    return kind[1]


def kind_of(term, context, kinds):
    """Return the normal kind of a term; context has the variables' kinds, the nearest first, each seeing the rest."""
    word = term[0]
    if word == "var":
        return normal(lifted(context[term[1]], term[1] + 1))
    if word == "sort":
        return ("sort", term[1] + 1)
    if word == "const":
        return normal(kinds[term[1]])
    if word == "app":
        function = kind_of(term[1], context, kinds)
        if function[0] != "pi" or not same(function[2], kind_of(term[2], context, kinds)):
            raise NoKind(term)
        return normal(put_in(function[3], term[2]))
    one = level_of(term[2], context, kinds)
    if word == "pi":
        return ("sort", pi_level(one, level_of(term[3], (term[2],) + context, kinds)))
    if word == "lam":
        return normal(("pi", term[1], term[2], kind_of(term[3], (term[2],) + context, kinds)))
    raise NoKind(term)
