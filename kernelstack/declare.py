"""Declarations from raw ones: rows, kinds and values elaborated, and how many arguments of names are implicit."""

from kernelstack.data import Data
from kernelstack.dataform import MOST_DATA_LEVEL
from kernelstack.elaborate import Elaborator, count_implicit
from kernelstack.errors import DataFault, KindFault, StepFault
from kernelstack.parser import need_term
from kernelstack.terms import all_pis, binders, spine, split_pis, variables


def leading_rows(raw):
    """Return the (name, kind or None, implicit) rows of the products at the beginning of a raw kind."""
    rows = []
    while raw[0] in ("pi", "arrow"):
        if raw[0] == "pi":
            rows.append((raw[1], raw[2], raw[4]))
            raw = raw[3]
        else:
            rows.append(("_", raw[1], False))
            raw = raw[2]
    return rows


def bound_rows(elaborator, rows, context):
    """Return a context with the variables of raw rows."""
    for name, kind, _ in rows:
        term, _ = elaborator.kind_of(kind, context)
        context = ((name, term, None),) + context
    return context


def rows_of(context, many):
    """Return the (name, kind) rows of the nearest variables of a context, so many, the first outermost."""
    return [(name, kind) for name, kind, _ in reversed(context[:many])]


def axiom_of(elaborator, raw):
    """Return (declaration, numbers of implicit arguments) of a raw axiom."""
    _, name, kind = raw
    many = count_implicit(leading_rows(kind))
    term, _ = elaborator.kind_of(kind, ())
    return (("axiom", name, elaborator.finished(term)), {name: many})


def statement_of(elaborator, raw):
    """Return (context, kind, level) of the rows and the kind of a raw definition or theorem, perhaps with holes."""
    context = bound_rows(elaborator, raw[2], ())
    kind, level = elaborator.kind_of(raw[3], context)
    if raw[0] == "theorem" and level != 0:
        raise KindFault("a theorem is no statement")
    return (context, kind, level)


def implicit_of(raw):
    """Return the numbers of implicit arguments of a raw definition or theorem."""
    return {raw[1]: count_implicit([*raw[2], *leading_rows(raw[3])])}


def definition_of(elaborator, raw):
    """Return (declaration, numbers of implicit arguments) of a raw definition, or of a theorem with a term."""
    implicits = implicit_of(raw)
    context, kind, _ = statement_of(elaborator, raw)
    need_term(raw[4])
    value = elaborator.checked(raw[4], kind, context)
    elaborator.check_late()
    rows = rows_of(context, len(context))
    kind = elaborator.finished(binders("pi", rows, kind))
    return (("def", raw[1], kind, elaborator.finished(binders("lam", rows, value))), implicits)


def claim_of(elaborator, raw):
    """Return (rows, kind) of a raw theorem that is proved by steps, or of a claim, without holes."""
    context, kind, level = statement_of(elaborator, raw)
    whole = elaborator.finished(binders("pi", rows_of(context, len(context)), kind))
    if level != 0:
        raise StepFault("a claim is no statement")
    return split_pis(whole, len(context))


def data_of(signature, implicits, raw):
    """Return (declaration, numbers of implicit arguments) of raw data."""
    _, name, rows, kind, constructors = raw
    signature.need_fresh(name)
    known = {name: 0}
    count_implicit(rows)
    for label, fields, _ in constructors:
        known[label] = count_implicit([*rows, *fields])
    need_level(kind)
    elaborator = Elaborator(signature.copied(), implicits)
    context = bound_rows(elaborator, rows, ())
    term, _ = elaborator.kind_of(kind, context)
    whole = elaborator.finished(binders("pi", rows_of(context, len(context)), term))
    params, rest = split_pis(whole, len(context))
    indices, end = all_pis(rest)
    if end[0] != "sort":
        raise DataFault("the kind of data does not end in a sort")
    data = Data(name, tuple(params), tuple(indices), end[1], ())
    elaborator.signature.add_name_of(data)
    made = tuple([constructor_of(elaborator, data, row) for row in constructors])
    return (("data", name, data.params, data.indices, data.level, made), known)


def need_level(raw):
    """Raise DataFault for a raw kind of data whose sort is too high; it would have no kind either."""
    while raw[0] in ("pi", "arrow"):
        raw = raw[3] if raw[0] == "pi" else raw[2]
    if raw[0] == "sort" and raw[1] > MOST_DATA_LEVEL:
        raise DataFault("data has no such level")


def constructor_of(elaborator, data, raw):
    """Return the constructor of a raw one."""
    label, rows, end = raw
    context = bound_rows(elaborator, rows, closed_rows(data.params))
    term = ("const", data.name)
    if end is not None:
        term, _ = elaborator.kind_of(end, context)
    whole = elaborator.finished(binders("pi", rows_of(context, len(rows)), term))
    fields, found = split_pis(whole, len(rows))
    if end is None:
        return (label, tuple(fields), ())
    head, arguments = spine(found)
    many = len(data.params)
    if head != ("const", data.name) or arguments[:many] != variables(many, len(rows)):
        raise DataFault("a constructor gives something else than its data")
    return (label, tuple(fields), tuple(arguments[many:]))


def closed_rows(rows):
    """Return the context after rows without holes."""
    context = ()
    for name, kind in rows:
        context = ((name, kind, None),) + context
    return context
