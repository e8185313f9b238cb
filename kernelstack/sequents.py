"""Sequents of the search for proofs: formulas by numbers, what is known, and proofs whose variables still have names.

While the search goes on, a function that binds a constant is ("bind", constant, name, kind, body), so that nothing has
to be counted anew when more is put around it, and the statement of a formula is ("told", number), which is the same at
all places. No such function stands under another binder.
"""

from kernelstack.terms import apply, lifted, nodes, parts, rebuilt, rebuilt_all, size

# How many nodes statements have beside those of their halves.
OWN_NODES = {"imp": 1, "and": 3, "or": 3, "false": 1}


class Formulas:
    """Formulas by their numbers, the same number for formulas that are alike, and the numbers of their halves."""

    def __init__(self):
        self.rows = []
        self.halves = []
        self.places = {}
        # How many nodes the statements have.
        self.sizes = []

    def number(self, one):
        """Return the number of a formula."""
        rows = []
        waiting = [one]
        while waiting:
            part = waiting.pop()
            rows.append(part)
            if part[0] not in ("atom", "false"):
                waiting.append(part[2])
                waiting.append(part[1])
        done = []
        for part in reversed(rows):
            if part[0] == "atom":
                done.append(self.numbered(key_of(part[1]), part, ()))
            elif part[0] == "false":
                done.append(self.numbered("false", part, ()))
            else:
                done.append(self.joined(part[0], done.pop(), done.pop()))
        return done[0]

    def joined(self, word, left, right):
        """Return the number of the formula that a word makes of two others."""
        return self.numbered((word, left, right), (word, self.rows[left], self.rows[right]), (left, right))

    def numbered(self, key, one, halves):
        """Return the number of a formula that a key tells from others."""
        if key not in self.places:
            self.places[key] = len(self.rows)
            self.rows.append(one)
            self.halves.append(halves)
            own = size(one[1]) if one[0] == "atom" else OWN_NODES[one[0]]
            self.sizes.append(own + sum([self.sizes[half] for half in halves]))
        return self.places[key]

    def statement_at(self, key, bound, found):
        """Return the statement of a (formula's number, how many binders are around that were not around the formula).

        bound tells how many of these are around the binder of a constant; what was found for keys is kept in found.
        """
        waiting = [key]
        while waiting:
            number, around = waiting[-1]
            one = self.rows[number]
            halves = [(half, around) for half in self.halves[number]]
            if one[0] == "imp":
                halves[1] = (halves[1][0], around + 1)
            missing = [half for half in halves if half not in found]
            if missing != []:
                waiting.extend(missing)
                continue
            told = [found[half] for half in halves]
            if one[0] == "atom":
                made = placed(one[1], around, bound)
            elif one[0] == "imp":
                made = ("pi", "_", told[0], told[1])
            else:
                made = apply(("const", one[0]), told)
            found[waiting.pop()] = made
        return found[key]


def placed(term, many, bound):
    """Return a term under so many more binders, with variables in the places of constants that these bind."""
    done = []
    for node, around in reversed(nodes(term)):
        if node[0] == "var" and node[1] >= around:
            done.append(("var", node[1] + many))
        elif node[0] == "const" and node[1] in bound:
            done.append(("var", many - 1 - bound[node[1]] + around))
        else:
            done.append(rebuilt(node, done))
    return done[0]


def statement_of(one):
    """Return the statement of a formula."""
    rows = []
    waiting = [(one, 0)]
    while waiting:
        part, around = waiting.pop()
        if part[0] == "atom":
            rows.append(("whole", lifted(part[1], around)))
        elif part[0] == "false":
            rows.append(("const", "false"))
        else:
            rows.extend([("pi", "_")] if part[0] == "imp" else [("app",), ("app",), ("const", part[0])])
            waiting.append((part[2], around + 1 if part[0] == "imp" else around))
            waiting.append((part[1], around))
    return rebuilt_all(rows)


def key_of(term):
    """Return a text that tells a term from those that are not the same."""
    words = []
    for node, _ in nodes(term):
        if node[0] in ("const", "rec"):
            words.append(f"{node!r}")
        elif node[0] == "meta":
            words.append(f"meta {node[1]} {len(node[2])}")
        else:
            words.append(f"{node[0]} {node[1]}" if node[0] in ("var", "sort") else node[0])
    return " ".join(words)


class Sequent:
    """Hypotheses that were looked at and those that were not, with their proofs, a goal, and what binds the proof.

    Hypotheses and the goal are numbers of formulas. What binds is (word, ..) rows, the outermost first. Disjunctions
    are set apart: they lead to two sequents, and are looked at when nothing is left that leads to one alone.
    """

    def __init__(self, known, waiting, goal, apart):
        self.known = known
        self.waiting = waiting
        self.goal = goal
        self.apart = apart
        self.around = []

    def with_more(self, waiting, goal):
        """Return a sequent with the same hypotheses and more, and a goal."""
        return Sequent(dict(self.known), list(self.waiting) + waiting, goal, dict(self.apart))

    def mark(self):
        """Return what tells a sequent from others: its hypotheses and its goal."""
        ids = [*self.known, *self.apart, *[number for number, _ in self.waiting]]
        return (tuple(sorted(set(ids))), self.goal)

    def known_goal(self):
        """Return the proof of a hypothesis that is the goal, None if none is."""
        for rows in (self.known, self.apart):
            if self.goal in rows:
                return rows[self.goal]
        for number, proof in self.waiting:
            if number == self.goal:
                return proof
        return None


class Attempt:
    """A sequent that is looked at, the ways that are left to prove it, and what is done of the one under way.

    A way leads to other sequents, all of which must be proved.
    """

    def __init__(self, sequent):
        self.sequent = sequent
        self.key = sequent.mark()
        self.ways = []
        self.way = None
        self.sequents = []
        self.given = []
        self.done = []
        self.found = None

    def begin(self, way, sequents, names):
        """Go a way, which leads to some sequents."""
        self.way = way
        self.sequents = sequents
        self.given = names
        self.done = []

    def take(self, found):
        """Take the proof of the next sequent; the way ends where there is none."""
        if found is None:
            self.way = None
        else:
            self.done.append(found)


def bind(name, kind, body):
    """Return the function that binds a constant that stands for a variable."""
    return ("bind", name, name.replace("#", "x"), kind, body)


def parts_of(node):
    """Return the parts of a node of a proof."""
    if node[0] == "bind":
        return (node[3], node[4])
    return tuple([part for part, _ in parts(node)])


def is_small(proof, most, sizes):
    """Return True if a proof has no more nodes than so many; those of formulas' statements are told."""
    many = 0
    waiting = [proof]
    while waiting and many <= most:
        one = waiting.pop()
        many += sizes[one[1]] if one[0] == "told" else 1
        waiting.extend(list(parts_of(one)))
    return many <= most


def tied(proof, formulas):
    """Return the term of a proof: variables in the places of the constants that it binds, others outside of these."""
    rows = []
    bound = {}
    # Statements that were told at some place, so that those of large formulas are made once for as many as possible.
    found = {}
    waiting = [(proof, 0, 0)]
    while waiting:
        node, named, around = waiting.pop()
        if node[0] == "bind":
            bound[node[1]] = named
            rows.append(("lam", node[2]))
            waiting.append((node[4], named + 1, around))
            waiting.append((node[3], named, around))
            continue
        if node[0] == "told":
            node = ("whole", formulas.statement_at((node[1], named + around), bound, found))
        elif node[0] == "var" and node[1] >= around:
            node = ("var", node[1] + named)
        elif node[0] == "const" and node[1] in bound:
            node = ("var", named - 1 - bound[node[1]] + around)
        rows.append(node)
        for part, under in reversed(parts(node)):
            waiting.append((part, named, around + under))
    return rebuilt_all(rows)
