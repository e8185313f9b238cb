"""Dependence: which names a declaration needs, and on which axioms it rests."""

from kernelstack.data import constructor_kind
from kernelstack.terms import names_in


def terms_used(signature, name):
    """Return the terms whose names a declaration needs: of data and its constructors, all constructors' kinds."""
    terms = [signature.kind_of(name)]
    if signature.value_of(name) is not None:
        terms.append(signature.value_of(name))
    owner = signature.owners.get(name, name)
    if owner in signature.data:
        data = signature.data[owner]
        terms.extend([constructor_kind(data, number) for number in range(len(data.constructors))])
    return terms


def needs(signature, name):
    """Return the names that a declaration's terms use, each once, in ascending order, its own left out."""
    found = {}
    for term in terms_used(signature, name):
        for one in names_in(term):
            found[one] = True
    return tuple([one for one in sorted(found) if one != name])


def reached(signature, names):
    """Return a table of some names and all that these need, and that those need."""
    found = {}
    waiting = list(names)
    while waiting:
        one = waiting.pop()
        if one not in found:
            found[one] = True
            waiting.extend(list(needs(signature, one)))
    return found


def all_needs(signature, name):
    """Return the names that a declaration needs, and that those need, in ascending order, its own left out."""
    return tuple([one for one in sorted(reached(signature, [name])) if one != name])


def axioms_of(signature, name):
    """Return the axioms on which a declaration rests, in the order of their declarations, itself if it is one."""
    found = reached(signature, [name])
    return tuple([row[1] for row in signature.order if row[0] == "axiom" and row[1] in found])


def unused(signature, names):
    """Return the names of a signature's declarations that some names do not need, in order."""
    found = reached(signature, names)
    return tuple([row[1] for row in signature.order if row[1] not in found])


def cut_down(signature, names):
    """Return the declarations that some names need, those names among them, in order."""
    found = reached(signature, names)
    return tuple([row for row in signature.order if row[1] in found])
