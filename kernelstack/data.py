"""Data: declarations of data by constructors, and the kinds of what they declare.

A declaration is ("data", name, parameters, indices, level, constructors): parameters, indices and constructors' fields
are (name, kind) rows in which each kind sees the rows before it; indices and fields see the parameters too. A
constructor is (name, fields, targets): a term for each index, which sees the parameters and the fields.
"""

from kernelstack.terms import all_pis, apply, binders, lifted, spine, variables


class Data:
    """Data's name, parameters, indices, level and constructors."""

    def __init__(self, name, params, indices, level, constructors):
        self.name = name
        self.params = params
        self.indices = indices
        self.level = level
        self.constructors = constructors

    def shown(self):
        """Return the declaration."""
        return ("data", self.name, self.params, self.indices, self.level, self.constructors)


def data_kind(data):
    """Return the kind of data's own name: products over parameters and indices, then its sort."""
    return binders("pi", [*data.params, *data.indices], ("sort", data.level))


def constructor_kind(data, number):
    """Return the kind of a constructor: products over parameters and fields, then the data of them and the targets."""
    _, fields, targets = data.constructors[number]
    params = variables(len(data.params), len(fields))
    return binders("pi", [*data.params, *fields], apply(("const", data.name), [*params, *targets]))


def recursive_fields(data, number):
    """Return the places of a constructor's fields that are of the data itself, or functions that give it, in order."""
    _, fields, _ = data.constructors[number]
    return [place for place, (_, kind) in enumerate(fields) if is_recursive(data, kind)]


def is_recursive(data, kind):
    """Return True if a field's kind ends in the data itself."""
    _, end = all_pis(kind)
    return spine(end)[0] == ("const", data.name)


def recursor_kind(data, level):
    """Return the kind of the recursor to a level: products over parameters, goal, cases, indices and the data."""
    rows = [*data.params, ("P", goal_kind(data, level))]
    for number in range(len(data.constructors)):
        rows.append(("_", case_kind(data, number)))
    many = len(data.constructors)
    rows.extend(moved_rows(data.indices, many + 1))
    rows.append(("x", data_of_indices(data, many + 1)))
    between = len(data.indices) + 1
    return binders("pi", rows, apply(("var", between + many), variables(between)))


def goal_kind(data, level):
    """Return the kind of a recursor's goal, under the parameters."""
    return binders("pi", [*data.indices, ("x", data_of_indices(data, 0))], ("sort", level))


def data_of_indices(data, between):
    """Return data applied to parameters and indices, where so many binders stand between these."""
    indices = len(data.indices)
    return apply(("const", data.name), variables(len(data.params), indices + between) + variables(indices))


def moved_rows(rows, many):
    """Return rows that see the same parameters, with so many more binders between these and the rows."""
    return [(name, lifted(kind, many, place)) for place, (name, kind) in enumerate(rows)]


def case_kind(data, number):
    """Return the kind of a recursor's case for a constructor, under the parameters, the goal and the cases before."""
    name, fields, targets = data.constructors[number]
    rows = moved_rows(fields, number + 1)
    for place in recursive_fields(data, number):
        rows.append(("h", hypothesis(data, number, place, len(rows) - len(fields))))
    hypotheses = len(rows) - len(fields)
    ends = [lifted(lifted(target, number + 1, len(fields)), hypotheses) for target in targets]
    params = variables(len(data.params), len(rows) + number + 1)
    made = apply(("const", name), params + variables(len(fields), hypotheses))
    return binders("pi", rows, apply(("var", len(rows) + number), [*ends, made]))


def hypothesis(data, number, place, before):
    """Return the goal for a recursive field, or for all that it gives, under the fields and the hypotheses before."""
    _, fields, _ = data.constructors[number]
    kind = lifted(lifted(fields[place][1], number + 1, place), len(fields) - place + before)
    rows, end = all_pis(kind)
    indices = spine(end)[1][len(data.params):]
    between = len(rows) + before
    field = apply(("var", between + len(fields) - 1 - place), variables(len(rows)))
    return binders("pi", rows, apply(("var", between + len(fields) + number), [*indices, field]))
