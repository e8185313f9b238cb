"""Printer: terms as texts that are read back as the same terms."""

from kernelstack.dataform import terms_of
from kernelstack.signature import is_good_name
from kernelstack.terms import apply, binders, nodes, spine, uses_var, variables


def fresh(name, taken):
    """Return a name that is not taken: a name, or it with quotes after it."""
    while name in taken:
        name = name + "'"
    return name


def constants_in(terms):
    """Return the names of the constants in terms."""
    found = {}
    for term in terms:
        for node, _ in nodes(term):
            if node[0] == "const":
                found[node[1]] = True
    return list(found)


def binder_name(name, names, constants):
    """Return the name by which a binder is printed, within binders that have names and a term that has constants."""
    plain = name if is_good_name(name) and name != "_" else "x"
    return fresh(plain, [*constants, *names])


def term_text(term, names=()):
    """Return a term's text; names are those of its free variables, the nearest first."""
    return text_of(term, tuple(names), constants_in([term]))


def text_of(term, names, constants):
    """Return the text of a part of a term that has constants; names are those of the part's free variables."""
    texts = []
    # Texts, and (term, names) rows, the first one last: goals of proofs may be deeper than terms are.
    waiting = [(term, names)]
    while waiting:
        one = waiting.pop()
        if isinstance(one, str):
            texts.append(one)
        else:
            waiting.extend(list(reversed(pieces_of(one[0], one[1], constants))))
    return "".join(texts)


def pieces_of(term, names, constants):
    """Return texts and (term, names) rows of a term's parts, which are its text one after another."""
    word = term[0]
    if word == "app":
        head, arguments = spine(term)
        pieces = atom_pieces(head, names)
        for argument in arguments:
            pieces = pieces + [" "] + atom_pieces(argument, names)
        return pieces
    if word == "pi" and not uses_var(term[3], 0):
        # The binder is not printed, so its name is free for others.
        return atom_pieces(term[2], names) + [" -> ", (term[3], ("",) + names)]
    if word not in ("pi", "lam", "let"):
        return [leaf_text(term, names)]
    name = binder_name(term[1], names, constants)
    kind = (term[2], names)
    body = (term[-1], (name,) + names)
    if word == "pi":
        return [f"forall ({name} : ", kind, "), ", body]
    if word == "lam":
        return [f"fun ({name} : ", kind, ") => ", body]
    return [f"let {name} : ", kind, " := ", (term[3], names), " in ", body]


def atom_pieces(term, names):
    """Return the pieces of an argument, or of the left side of an arrow: with brackets if it needs them."""
    if term[0] in ("var", "const", "rec", "meta") or (term[0] == "sort" and term[1] < 2):
        return [(term, names)]
    return ["(", (term, names), ")"]


def leaf_text(term, names):
    """Return the text of a term that has no parts."""
    if term[0] == "var":
        return names[term[1]]
    if term[0] == "const":
        return f"@{term[1]}"
    if term[0] == "rec":
        return f"rec[{term[1]} {term[2]}]"
    # Goals of proofs under way have holes.
    if term[0] == "meta":
        return "?"
    if term[1] == 0:
        return "Prop"
    return "Type" if term[1] == 1 else f"Type {term[1] - 1}"


def declaration_text(declaration):
    """Return a declaration's text."""
    if declaration[0] == "data":
        return data_text(declaration)
    text = f"{declaration[0]} {declaration[1]} : {term_text(declaration[2])}"
    if declaration[0] == "def":
        text = f"{text} := {term_text(declaration[3])}"
    return f"{text};"


def data_text(declaration):
    """Return the text of a declaration of data."""
    _, name, params, indices, level, constructors = declaration
    constants = constants_in([("const", name), *terms_of(declaration)])
    texts, names = rows_text(params, (), constants)
    kind = text_of(binders("pi", indices, ("sort", level)), names, constants)
    parts = [f"data {name}{texts} : {kind}"]
    for label, fields, targets in constructors:
        inner, around = rows_text(fields, names, constants)
        text = f"| {label}{inner}"
        if indices != ():
            made = apply(("const", name), [*variables(len(params), len(fields)), *targets])
            text = f"{text} : {text_of(made, around, constants)}"
        parts.append(text)
    return " ".join([*parts, "end;"])


def rows_text(rows, names, constants):
    """Return (text of rows, each behind a blank, and the names of the variables after them, the nearest first)."""
    text = ""
    for name, kind in rows:
        plain = binder_name(name, names, constants)
        text = f"{text} ({plain} : {text_of(kind, names, constants)})"
        names = (plain,) + names
    return (text, names)


def file_text(declarations):
    """Return the text of declarations, one after another, each with a line end behind it."""
    return "".join([f"{declaration_text(row)}\n" for row in declarations])
