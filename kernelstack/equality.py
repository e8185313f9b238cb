"""Equality: proofs that two terms are equal, made of others.

Data named "eq" with the constructor refl is equality: two parameters (a kind and a term of it) and an index, of level
0.
All terms stand under the same binders; none of what is made binds a variable of theirs.
"""

from kernelstack.errors import DataFault, StepFault, TermError
from kernelstack.terms import apply, check_term, lifted, put_in, spine, uses_var

EQUALITY = ("const", "eq")
# The kinds of the parameters and of the index.
ROWS = (("sort", 1), ("var", 0), ("var", 1))
PROP = ("sort", 0)


def need_equality(signature):
    """Raise DataFault if a signature has no equality."""
    if "eq" not in signature.data:
        raise DataFault("there is no data eq")
    data = signature.data["eq"]
    kinds = tuple([kind for _, kind in data.params] + [kind for _, kind in data.indices])
    if data.level != 0 or len(data.params) != 2 or kinds != ROWS or data.constructors != (("refl", (), (("var", 0),)),):
        raise DataFault("eq is no equality")


def equal_statement(kind, one, other):
    """Return the statement that two terms of a kind are equal."""
    return apply(EQUALITY, [kind, one, other])


def sides_of(statement):
    """Return (kind, one, other) of a statement that two terms are equal, None for another one."""
    head, arguments = spine(statement)
    if head != EQUALITY or len(arguments) != 3:
        return None
    return tuple(arguments)


def of_a_size(proof):
    """Return a proof; raise StepFault for one that is too large for a term."""
    try:
        return check_term(proof)
    except TermError:
        raise StepFault("a proof is too large for a term")


def by_itself(kind, term):
    """Return the proof that a term is equal to itself."""
    return of_a_size(apply(("const", "refl"), [kind, term]))


def carried_on(kind, one, other, proof, body, value):
    """Return a proof of a statement about another term, by the proof that one is equal to it, and that about one.

    body is the statement under one more binder, whose variable stands for the term.
    """
    equal = equal_statement(lifted(kind, 1), lifted(one, 1), ("var", 0))
    goal = ("lam", "b", kind, ("lam", "_", equal, lifted(body, 1)))
    return of_a_size(apply(("rec", "eq", 0), [kind, one, goal, value, other, proof]))


def turned(kind, one, other, proof):
    """Return the proof that another term is equal to one, by that of the opposite."""
    body = equal_statement(lifted(kind, 1), ("var", 0), lifted(one, 1))
    return carried_on(kind, one, other, proof, body, by_itself(kind, one))


def joined_proofs(kind, terms, proofs):
    """Return the proof that one term is equal to a third one, by those of the first two and of the last two."""
    first, second, third = terms
    body = equal_statement(lifted(kind, 1), lifted(first, 1), ("var", 0))
    return carried_on(kind, second, third, proofs[1], body, proofs[0])


def in_argument(kinds, function, one, other, proof):
    """Return the proof that a function of equal arguments is equal; kinds are those of argument and result."""
    kind, result = kinds
    left = ("app", function, one)
    right = ("app", lifted(function, 1), ("var", 0))
    body = equal_statement(lifted(result, 1), lifted(left, 1), right)
    return carried_on(kind, one, other, proof, body, by_itself(result, left))


def in_function(kinds, functions, proof, argument):
    """Return the proof that equal functions of an argument are equal; kinds are those of functions and result."""
    kind, result = kinds
    left = ("app", functions[0], argument)
    right = ("app", ("var", 0), lifted(argument, 1))
    body = equal_statement(lifted(result, 1), lifted(left, 1), right)
    return carried_on(kind, functions[0], functions[1], proof, body, by_itself(result, left))


def plain_function(kind):
    """Return (argument's kind, result's kind) of a function's kind, None if the result hangs on the argument."""
    if kind[0] != "pi" or uses_var(kind[3], 0):
        return None
    return (kind[2], put_in(kind[3], PROP))
