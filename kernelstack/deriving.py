"""Deriving: declarations that follow from plain data: sizes, tests, and that constructors differ and keep their
fields.
"""

from kernelstack.data import recursive_fields
from kernelstack.equal import Comparer
from kernelstack.equality import by_itself, carried_on, equal_statement, need_equality
from kernelstack.errors import DataFault
from kernelstack.terms import apply, arrow, binders, lifted, variables
from kernelstack.values import MOST_STEPS

PROP = ("sort", 0)
NAT = ("const", "nat")
BOOL = ("const", "bool")
FALSE = ("const", "false")
TRUE_P = ("const", "true_p")


def plain_data(signature, name):
    """Return data without parameters and indices, of level 1, each field of which is of such data.

    Raise NameFault for no data, DataFault for others.
    """
    data = signature.data_named(name)
    if not is_simple(data, 1):
        raise DataFault(f"{name} is not plain")
    for number in range(len(data.constructors)):
        for kind in fields_of(data, number):
            inner = signature.data.get(kind[1]) if kind[0] == "const" else None
            if inner is None or not is_simple(inner, 1):
                raise DataFault(f"a field of {name} is not plain")
    return data


def is_simple(data, level):
    """Return True for data without parameters and indices, of a level."""
    return data.params == () and data.indices == () and data.level == level


def fields_of(data, number):
    """Return the kinds of a constructor's fields."""
    return [kind for _, kind in data.constructors[number][1]]


def case_rows(data, number, goal):
    """Return the (name, kind) rows of a recursor's case for a goal that hangs on nothing: fields, then values below."""
    rows = [(f"x{place}", kind) for place, kind in enumerate(fields_of(data, number))]
    return rows + [(f"h{place}", goal) for place in recursive_fields(data, number)]


def by_cases(data, goal, level, bodies):
    """Return the recursor into a goal (a closed kind of a level), with a body for each constructor, under its rows."""
    into = ("lam", "x", ("const", data.name), goal)
    cases = [binders("lam", case_rows(data, number, goal), body) for number, body in enumerate(bodies)]
    return apply(("rec", data.name, level), [into, *cases])


def need_shape(signature, name, level, shape):
    """Raise DataFault if data is not just of a level, with constructors of (name, fields' kinds) rows."""
    data = signature.data_named(name)
    found = [(row[0], fields_of(data, number)) for number, row in enumerate(data.constructors)]
    if not is_simple(data, level) or found != shape:
        raise DataFault(f"{name} is other data than it must be")


def need_numbers(signature):
    """Raise NameFault or DataFault if a signature has no numbers and their sums."""
    need_shape(signature, "nat", 1, [("O", []), ("S", [NAT])])
    kind = signature.kind_of("add")
    if not Comparer(signature, MOST_STEPS).equal_terms(kind, arrow(NAT, arrow(NAT, NAT))):
        raise DataFault("add is no sum of numbers")


def size_of(signature, name):
    """Return the definition "name.size": how many constructors of the data itself something is made of, as nat.

    nat has O and S, add is there (NameFault or DataFault).
    """
    data = plain_data(signature, name)
    need_numbers(signature)
    bodies = []
    for number in range(len(data.constructors)):
        many = len(recursive_fields(data, number))
        total = ("const", "O") if many == 0 else ("var", 0)
        for place in range(1, many):
            total = apply(("const", "add"), [("var", place), total])
        bodies.append(("app", ("const", "S"), total))
    return ("def", f"{name}.size", arrow(("const", name), NAT), by_cases(data, NAT, 1, bodies))


def test_of(signature, name, number):
    """Return the definition "name.is.constructor", a bool: whether something is made by a constructor."""
    data = plain_data(signature, name)
    need_shape(signature, "bool", 1, [("true", []), ("false_b", [])])
    bodies = [("const", "true" if place == number else "false_b") for place in range(len(data.constructors))]
    label = f"{name}.is.{data.constructors[number][0]}"
    return ("def", label, arrow(("const", name), BOOL), by_cases(data, BOOL, 1, bodies))


def made_of(data, number, start):
    """Return a constructor of variables: those of its fields, the last of which has a number."""
    return apply(("const", data.constructors[number][0]), variables(len(fields_of(data, number)), start))


def two_rows(data, one, other):
    """Return the rows of both constructors' fields."""
    rows = [(f"a{place}", kind) for place, kind in enumerate(fields_of(data, one))]
    return rows + [(f"b{place}", kind) for place, kind in enumerate(fields_of(data, other))]


def proof_from_equal(data, ends, make):
    """Return (kind, value) of a proof from an equation of what two constructors make, for all their fields.

    make returns (what is proved, its proof), given both sides under their fields and the equation.
    """
    one, other = ends
    rows = two_rows(data, one, other)
    many = len(fields_of(data, other))
    kind = ("const", data.name)
    sides = (made_of(data, one, many), made_of(data, other, 0))
    rows.append(("e", equal_statement(kind, sides[0], sides[1])))
    statement, proof = make(lifted(sides[0], 1), lifted(sides[1], 1))
    return (binders("pi", rows, statement), binders("lam", rows, proof))


def differs(signature, name, one, other):
    """Return the definition "first.not.second", a proof: what two constructors make is never equal.

    false is data without constructors, of level 0, true_p data of level 0 with the constructor yes.
    """
    data = plain_data(signature, name)
    need_equality(signature)
    if one == other:
        raise DataFault("a constructor does not differ from itself")
    need_shape(signature, "false", 0, [])
    need_shape(signature, "true_p", 0, [("yes", [])])
    bodies = [TRUE_P if place == one else FALSE for place in range(len(data.constructors))]
    statement = ("app", by_cases(data, PROP, 1, bodies), ("var", 0))

    def make(left, right):
        return (FALSE, carried_on(("const", name), left, right, ("var", 0), statement, ("const", "yes")))

    kind, value = proof_from_equal(data, (one, other), make)
    return ("def", f"{data.constructors[one][0]}.not.{data.constructors[other][0]}", kind, value)


def keeps(signature, name, number, place):
    """Return the definition "constructor.keeps.place", a proof.

    It proves that equal things of a constructor have equal fields there.
    """
    data = plain_data(signature, name)
    need_equality(signature)
    kinds = fields_of(data, number)
    if not 0 <= place < len(kinds):
        raise DataFault("a constructor has no such field")
    many = len(kinds)
    first = ("var", 2 * many - place)
    second = ("var", many - place)

    def make(left, right):
        bodies = []
        for at in range(len(data.constructors)):
            rows = len(case_rows(data, at, kinds[place]))
            # Other constructors have no such field: there it may be anything, such as the first one.
            bodies.append(("var", rows - 1 - place) if at == number else lifted(first, 1 + rows))
        field = ("app", by_cases(data, kinds[place], 1, bodies), ("var", 0))
        statement = equal_statement(kinds[place], lifted(first, 1), field)
        proof = carried_on(("const", name), left, right, ("var", 0), statement, by_itself(kinds[place], first))
        return (equal_statement(kinds[place], first, second), proof)

    kind, value = proof_from_equal(data, (number, number), make)
    return ("def", f"{data.constructors[number][0]}.keeps.{place}", kind, value)


def derived(signature, name):
    """Return all declarations that follow from data: that constructors differ, in order, then that they keep fields."""
    data = plain_data(signature, name)
    many = len(data.constructors)
    found = []
    for one in range(many):
        for other in range(many):
            if one != other:
                found.append(differs(signature, name, one, other))
    for number in range(many):
        for place in range(len(fields_of(data, number))):
            found.append(keeps(signature, name, number, place))
    return tuple(found)
