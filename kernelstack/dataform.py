"""The form of declarations of data: rows, names, and where the data's own name may stand."""

from kernelstack.errors import DataFault
from kernelstack.terms import all_pis, is_number, spine, uses_name, variables

MOST_CONSTRUCTORS = 20
MOST_DATA_LEVEL = 11


def need_rows(declaration):
    """Raise DataFault if the parts of a declaration of data are no rows of names and terms, or too many."""
    if len(declaration) != 6:
        raise DataFault("a declaration of data has six parts")
    _, _, params, indices, level, constructors = declaration
    if not are_rows(params) or not are_rows(indices) or not isinstance(constructors, tuple):
        raise DataFault("parts of data are no rows")
    if not is_number(level) or level > MOST_DATA_LEVEL:
        raise DataFault("data has no such level")
    if len(constructors) > MOST_CONSTRUCTORS:
        raise DataFault("data has too many constructors")
    for row in constructors:
        if not is_constructor(row):
            raise DataFault("a constructor is no row")


def are_rows(rows):
    """Return True for rows of names and what may be terms."""
    if not isinstance(rows, tuple):
        return False
    for row in rows:
        if not isinstance(row, tuple) or len(row) != 2 or not isinstance(row[0], str):
            return False
    return True


def is_constructor(row):
    """Return True for a row of a name, fields and targets."""
    if not isinstance(row, tuple) or len(row) != 3 or not isinstance(row[0], str):
        return False
    return are_rows(row[1]) and isinstance(row[2], tuple)


def terms_of(declaration):
    """Return the terms of a declaration of data whose parts are rows, in order."""
    _, _, params, indices, _, constructors = declaration
    found = [kind for _, kind in params + indices]
    for _, fields, targets in constructors:
        found.extend([kind for _, kind in fields])
        found.extend(list(targets))
    return found


def need_form(data):
    """Raise DataFault for a name twice, a wrong number of targets, or the data's name where it may not stand."""
    names = [data.name] + [row[0] for row in data.constructors]
    if len(set(names)) != len(names):
        raise DataFault("a name stands twice in a declaration of data")
    for _, kind in data.params + data.indices:
        need_absent(data, kind)
    for _, fields, targets in data.constructors:
        if len(targets) != len(data.indices):
            raise DataFault("a constructor has a wrong number of targets")
        for target in targets:
            need_absent(data, target)
        for place, (_, kind) in enumerate(fields):
            need_last(data, place, kind)


def need_absent(data, term):
    """Raise DataFault if the data's name stands in a term."""
    if uses_name(term, data.name):
        raise DataFault(f"{data.name} stands where it may not")


def need_last(data, place, kind):
    """Raise DataFault if the data's name stands in a field's kind, but not at the end alone, with its parameters."""
    rows, end = all_pis(kind)
    for _, inner in rows:
        need_absent(data, inner)
    head, arguments = spine(end)
    if head != ("const", data.name):
        need_absent(data, end)
        return
    many = len(data.params)
    if arguments[:many] != variables(many, place + len(rows)) or len(arguments) != many + len(data.indices):
        raise DataFault(f"{data.name} is not applied to its parameters and indices")
    for argument in arguments[many:]:
        need_absent(data, argument)
