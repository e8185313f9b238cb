"""Terms: variables count the binders between; names of binders are for reading alone.

("var", number), ("sort", level), ("const", name), ("rec", data name, level), ("pi", name, kind, body),
("lam", name, kind, body), ("app", function, argument) and ("let", name, kind, value, body).
"""

from kernelstack.errors import TermError

MOST_PARTS = 20000
MOST_DEEP = 100
MOST_LEVEL = 12
# What stands behind the word of a term, in order.
FORMS = {
    "var": ("number",),
    "sort": ("level",),
    "const": ("name",),
    "rec": ("name", "level"),
    "pi": ("name", "part", "part"),
    "lam": ("name", "part", "part"),
    "app": ("part", "part"),
    "let": ("name", "part", "part", "part"),
}


def parts(term):
    """Return (subterm, how many binders it stands under) of a term's direct parts, in order."""
    word = term[0]
    if word == "app":
        return ((term[1], 0), (term[2], 0))
    if word in ("pi", "lam"):
        return ((term[2], 0), (term[3], 1))
    if word == "let":
        return ((term[2], 0), (term[3], 0), (term[4], 1))
    # While it works, elaboration has terms with holes, ("meta", number, terms); check_term refuses them.
    if word == "meta":
        return tuple([(one, 0) for one in term[2]])
    return ()


def with_parts(term, fresh):
    """Return a term with other direct parts, in the order of parts."""
    word = term[0]
    if word == "app":
        return (word, fresh[0], fresh[1])
    if word in ("pi", "lam"):
        return (word, term[1], fresh[0], fresh[1])
    if word == "let":
        return (word, term[1], fresh[0], fresh[1], fresh[2])
    if word == "meta":
        return (word, term[1], tuple(fresh))
    return term


def is_number(value):
    """Return True if a value is an integer from 0 on; True and False are none."""
    return isinstance(value, int) and not isinstance(value, bool) and value >= 0


def is_level(value):
    """Return True if a value is the number of a level."""
    return is_number(value) and value <= MOST_LEVEL


def check_term(term):
    """Return a term; raise TermError for a value that is none, or one of more than 20000 parts or 100 levels."""
    many = 0
    row = [term]
    for _ in range(MOST_DEEP):
        many += len(row)
        # Asked before the row is looked into, so that no value takes longer than the greatest term does.
        if many > MOST_PARTS:
            break
        row = checked_parts(row)
        if not row:
            return term
    raise TermError("a term is too large")


def checked_parts(row):
    """Return the direct parts of terms; raise TermError for a value that is none, which is told without its parts."""
    found = []
    for one in row:
        if not isinstance(one, tuple) or not one or not isinstance(one[0], str):
            raise TermError("a value is no term")
        word = one[0]
        many = len(one)
        # This is asked for each node of all that is checked: the words of which most terms are made stand first, and
        # no function is called for them.
        if word == "app":
            is_good = many == 3
            found += one[1:]
        elif word == "const":
            is_good = many == 2 and isinstance(one[1], str)
        elif word == "var":
            is_good = many == 2 and isinstance(one[1], int) and not isinstance(one[1], bool) and one[1] >= 0
        elif word in ("pi", "lam", "let"):
            is_good = many == (5 if word == "let" else 4) and isinstance(one[1], str)
            found += one[2:]
        elif word == "sort":
            is_good = many == 2 and is_level(one[1])
        else:
            is_good = word == "rec" and many == 3 and isinstance(one[1], str) and is_level(one[2])
        if not is_good:
            raise TermError("a value is no term")
    return found


def nodes(term):
    """Return (subterm, how many binders it stands under) of a term and all its parts, outer ones first, in order."""
    found = []
    waiting = [(term, 0)]
    while waiting:
        one, around = waiting.pop()
        found.append((one, around))
        for part, under in reversed(parts(one)):
            waiting.append((part, around + under))
    return found


def rebuilt(node, done):
    """Return a node with other parts, taken off the end of what is done; its first part is the last one there.

    By this terms are made from the nodes of others, from the last one to the first, however deep they are.
    """
    word = node[0]
    if word == "app":
        return (word, done.pop(), done.pop())
    if word in ("pi", "lam"):
        return (word, node[1], done.pop(), done.pop())
    if word in ("let", "meta"):
        return with_parts(node, [done.pop() for _ in parts(node)])
    return node[1] if word == "whole" else node


def rebuilt_all(rows):
    """Return the term of all its nodes, outer ones first, in order; ("whole", term) stands for a part that is done."""
    done = []
    for node in reversed(rows):
        done.append(rebuilt(node, done))
    return done[0]


def with_variables(term, start, change):
    """Return a term with others in the places of its variables from a number on.

    change returns them, given a variable's number, and the start as it is counted where the variable stands.
    """
    done = []
    for node, around in reversed(nodes(term)):
        if node[0] != "var":
            done.append(rebuilt(node, done))
        elif node[1] >= start + around:
            done.append(change(node[1], start + around))
        else:
            done.append(node)
    return done[0]


def lifted(term, many, start=0):
    """Return a term whose variables from a number on are greater by so many."""
    if many == 0:
        return term
    return with_variables(term, start, lambda number, depth: ("var", number + many))


def put_in(term, value, start=0):
    """Return a term with a value in the place of a variable; greater variables are less by one.

    The value stands where the variable is bound: outside of the binders of all lesser variables.
    """
    return put_in_from(term, (value,), start)


def put_in_all(term, values):
    """Return a term with values in the places of its first variables, the last value for variable 0.

    All values stand outside of the binders of these variables.
    """
    return put_in_from(term, values, 0)


def put_in_from(term, values, start):
    """Return a term with values in the places of the variables from a number on, the last value for that number."""
    many = len(values)

    def change(number, depth):
        if number - depth < many:
            return lifted(values[many - 1 - (number - depth)], depth)
        return ("var", number - many)

    return with_variables(term, start, change)


def lowest_free(term, depth=0):
    """Return the least number of binders that must stand around a term so that no variable is free, counted outside."""
    lowest = 0
    for node, around in nodes(term):
        if node[0] == "var":
            lowest = max(lowest, node[1] + 1 - around - depth)
    return lowest


def uses_var(term, number):
    """Return True if a variable is free in a term."""
    return any(node == ("var", number + around) for node, around in nodes(term))


def uses_name(term, name):
    """Return True if a constant, or a recursor of data, of a name is in a term."""
    return name in names_in(term)


def names_in(term):
    """Return the names of constants and of recursors' data in a term, each once, in order."""
    found = {}
    for node, _ in nodes(term):
        if node[0] in ("const", "rec"):
            found[node[1]] = True
    return tuple(found)


def same(one, other):
    """Return True if two terms are the same but for binders' names."""
    pairs = [(one, other)]
    while pairs:
        one, other = pairs.pop()
        if one[0] != other[0]:
            return False
        if one[0] == "meta" and (one[1] != other[1] or len(one[2]) != len(other[2])):
            return False
        inner = parts(one)
        if inner == () and one != other:
            return False
        for (part, _), (opposite, _) in zip(inner, parts(other)):
            pairs.append((part, opposite))
    return True


def size(term):
    """Return the number of nodes of a term."""
    return len(nodes(term))


def is_deeper(term, most):
    """Return True if a term has more levels than so many."""
    waiting = [(term, 1)]
    while waiting:
        one, level = waiting.pop()
        if level > most:
            return True
        waiting.extend([(part, level + 1) for part, _ in parts(one)])
    return False


def is_larger(term, most):
    """Return True if a term has more nodes than so many; no more of them are counted, however many there are."""
    many = 0
    waiting = [term]
    while waiting and many <= most:
        many += 1
        for part, _ in parts(waiting.pop()):
            waiting.append(part)
    return many > most


def apply(function, arguments):
    """Return the application of a function to arguments, one after another."""
    for argument in arguments:
        function = ("app", function, argument)
    return function


def spine(term):
    """Return (head, list of arguments) of an application, an empty list for another term."""
    arguments = []
    while term[0] == "app":
        arguments.append(term[2])
        term = term[1]
    arguments.reverse()
    return (term, arguments)


def variables(many, start=0):
    """Return so many variables that are bound one after another, the outermost first, the last one having a number."""
    return [("var", start + many - 1 - place) for place in range(many)]


def binders(word, rows, body):
    """Return a term under binders of (name, kind) rows, the first outermost: each kind sees the rows before it."""
    for name, kind in reversed(rows):
        body = (word, name, kind, body)
    return body


def arrow(kind, body):
    """Return the kind of functions from a kind to another one, which stands outside the binder."""
    return ("pi", "_", kind, lifted(body, 1))


def split_pis(term, many):
    """Return (list of rows, body) of a term under so many products; raise TermError for fewer."""
    rows = []
    for _ in range(many):
        if term[0] != "pi":
            raise TermError("a term has too few products")
        rows.append((term[1], term[2]))
        term = term[3]
    return (rows, term)


def all_pis(term):
    """Return (list of rows, body) of a term under all the products at its beginning."""
    rows = []
    while term[0] == "pi":
        rows.append((term[1], term[2]))
        term = term[3]
    return (rows, term)


def pi_level(one, other):
    """Return the level of a product: 0 if its body's is 0, else the greater one."""
    return 0 if other == 0 else max(one, other)
