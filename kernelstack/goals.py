"""Goals of recursors: kinds as they hang on a term of data, and on the indices of the term's kind."""

from kernelstack.data import goal_kind
from kernelstack.terms import binders, lifted, parts, put_in_all, rebuilt_all, same, split_pis


def goal_over(data, level, arguments, term, kind):
    """Return the goal of a recursor: a kind as it hangs on a term of data, and on the indices of the term's kind."""
    many = len(data.params)
    indices = arguments[many:]
    rows, _ = split_pis(put_in_all(goal_kind(data, level), arguments[:many]), len(indices) + 1)
    places = [(term, 0)]
    for place, index in enumerate(indices):
        places.append((index, len(indices) - place))
    return binders("lam", rows, exchanged(kind, places, 0))


def exchanged(kind, places, depth):
    """Return a kind with fresh variables in the places of terms that stand outside: (term, number of its variable)."""
    rows = []
    waiting = [(kind, depth)]
    while waiting:
        node, inside = waiting.pop()
        variable = variable_for(node, places, inside)
        if variable is not None:
            rows.append(variable)
        elif node[0] == "var":
            rows.append(("var", node[1] + len(places)) if node[1] >= inside else node)
        else:
            rows.append(node)
            for part, under in reversed(parts(node)):
                waiting.append((part, inside + under))
    return rebuilt_all(rows)


def variable_for(node, places, depth):
    """Return the variable that stands in the place of a node, None if the node is none of the terms told."""
    for term, number in places:
        if node[0] == term[0] and same(node, lifted(term, depth)):
            return ("var", depth + number)
    return None
