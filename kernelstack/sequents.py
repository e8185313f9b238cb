"""Sequents of the search for proofs: formulas by numbers, what is known, and proofs whose variables still have names.

While the search goes on, a function that binds a constant is ("bind", constant, name, kind, body), so that nothing has
to be counted anew when more is put around it. No such function stands under another binder.
"""

from kernelstack.terms import nodes, parts, rebuilt


class Formulas:
    """Formulas by their numbers, the same number for formulas that are alike, and the numbers of their halves."""

    def __init__(self):
        self.rows = []
        self.halves = []
        self.places = {}

    def number(self, one):
        """Return the number of a formula."""
        if one[0] == "atom":
            return self.numbered(key_of(one[1]), one, ())
        if one[0] == "false":
            return self.numbered("false", one, ())
        return self.joined(one[0], self.number(one[1]), self.number(one[2]))

    def joined(self, word, left, right):
        """Return the number of the formula that a word makes of two others."""
        return self.numbered((word, left, right), (word, self.rows[left], self.rows[right]), (left, right))

    def numbered(self, key, one, halves):
        """Return the number of a formula that a key tells from others."""
        if key not in self.places:
            self.places[key] = len(self.rows)
            self.rows.append(one)
            self.halves.append(halves)
        return self.places[key]


def key_of(term):
    """Return a text that tells a term from those that are not the same."""
    words = []
    for node, _ in nodes(term):
        if node[0] in ("const", "rec"):
            words.append(f"{node!r}")
        elif node[0] == "meta":
            words.append(f"meta {node[1]} {len(node[2])}")
        else:
            words.append(f"{node[0]} {node[1]}" if node[0] in ("var", "sort") else node[0])
    return " ".join(words)


class Sequent:
    """Hypotheses that were looked at and those that were not, with their proofs, a goal, and what binds the proof.

    Hypotheses and the goal are numbers of formulas. What binds is (word, ..) rows, the outermost first. Disjunctions
    are set apart: they lead to two sequents, and are looked at when nothing is left that leads to one alone.
    """

    def __init__(self, known, waiting, goal, apart):
        self.known = known
        self.waiting = waiting
        self.goal = goal
        self.apart = apart
        self.around = []

    def with_more(self, waiting, goal):
        """Return a sequent with the same hypotheses and more, and a goal."""
        return Sequent(dict(self.known), list(self.waiting) + waiting, goal, dict(self.apart))

    def mark(self):
        """Return what tells a sequent from others: its hypotheses and its goal."""
        ids = [*self.known, *self.apart, *[number for number, _ in self.waiting]]
        return (tuple(sorted(set(ids))), self.goal)

    def known_goal(self):
        """Return the proof of a hypothesis that is the goal, None if none is."""
        for rows in (self.known, self.apart):
            if self.goal in rows:
                return rows[self.goal]
        for number, proof in self.waiting:
            if number == self.goal:
                return proof
        return None


class Attempt:
    """A sequent that is looked at, the ways that are left to prove it, and what is done of the one under way.

    A way leads to other sequents, all of which must be proved.
    """

    def __init__(self, sequent):
        self.sequent = sequent
        self.key = sequent.mark()
        self.ways = []
        self.way = None
        self.sequents = []
        self.given = []
        self.done = []
        self.found = None

    def begin(self, way, sequents, names):
        """Go a way, which leads to some sequents."""
        self.way = way
        self.sequents = sequents
        self.given = names
        self.done = []

    def take(self, found):
        """Take the proof of the next sequent; the way ends where there is none."""
        if found is None:
            self.way = None
        else:
            self.done.append(found)


def bind(name, kind, body):
    """Return the function that binds a constant that stands for a variable."""
    return ("bind", name, name.replace("#", "x"), kind, body)


def parts_of(node):
    """Return the parts of a node of a proof."""
    if node[0] == "bind":
        return (node[3], node[4])
    return tuple([part for part, _ in parts(node)])


def is_small(proof, most):
    """Return True if a proof has no more nodes than so many."""
    many = 0
    waiting = [proof]
    while waiting and many <= most:
        many += 1
        waiting.extend(list(parts_of(waiting.pop())))
    return many <= most


def tied(proof):
    """Return the term of a proof: variables in the places of the constants that it binds, others outside of these."""
    rows = []
    bound = {}
    waiting = [(proof, 0, 0)]
    while waiting:
        node, named, around = waiting.pop()
        if node[0] == "bind":
            bound[node[1]] = named
            rows.append(("lam", node[2], node[3], node[4]))
            waiting.append((node[4], named + 1, around))
            waiting.append((node[3], named, around))
            continue
        if node[0] == "var" and node[1] >= around:
            node = ("var", node[1] + named)
        elif node[0] == "const" and node[1] in bound:
            node = ("var", named - 1 - bound[node[1]] + around)
        rows.append(node)
        for part, under in reversed(parts(node)):
            waiting.append((part, named, around + under))
    done = []
    for node in reversed(rows):
        done.append(rebuilt(node, done))
    return done[0]
