"""Holes: terms with ("meta", number, terms) for what is to be found, and what is known of them so far."""

from kernelstack.data import recursive_fields
from kernelstack.errors import KindFault, WorkFault
from kernelstack.terms import (all_pis, apply, binders, is_larger, lifted, nodes, parts, put_in, put_in_all, rebuilt,
                               rebuilt_all, spine, variables, with_variables)
from kernelstack.values import needed_by

MOST_STEPS_FOUND = 3000
MOST_NODES_FOUND = 5000
# So many nodes are looked at to fill holes in, where the term itself is not bounded by what it is for.
MOST_NODES_FILLED = 20000


def holes_of(term):
    """Return the numbers of the holes in a term, each once, in order."""
    found = {}
    for node, _ in nodes(term):
        if node[0] == "meta":
            found[node[1]] = True
    return list(found)


def filled(term, values, start):
    """Return a term with values in the places of its variables from a number on, the first value for that number."""
    many = len(values)

    def change(number, depth):
        if number - depth < many:
            return lifted(values[number - depth], depth)
        return ("var", number - many)

    return with_variables(term, start, change)


def moved(term, places, depth, hole):
    """Return a term with its free variables renamed, None if one has no new name, or the hole is in it."""
    done = []
    for node, around in reversed(nodes(term)):
        inside = depth + around
        if node[0] == "meta" and node[1] == hole:
            return None
        if node[0] != "var":
            done.append(rebuilt(node, done))
        elif node[1] < inside:
            done.append(node)
        elif node[1] - inside in places:
            done.append(("var", places[node[1] - inside] + inside))
        else:
            return None
    return done[0]


def kind_in(context, number):
    """Return the kind of a context's variable, under the whole context; raise KindFault for no variable."""
    if number >= len(context):
        raise KindFault("a variable is bound nowhere")
    return lifted(context[number][1], number + 1)


def are_own_variables(terms):
    """Return True for the terms to which a hole is applied that stands just where it was made."""
    return all(term == ("var", place) for place, term in enumerate(terms))


class Holes:
    """A signature, what holes stand for, their kinds and contexts, and how many steps were made."""

    def __init__(self, signature):
        self.signature = signature
        self.solved = {}
        self.kinds = {}
        self.contexts = {}
        # Holes for kinds that are not told, which may be found to be of another level than 1.
        self.untold = {}
        # Holes for the kinds of rows without one whose level is not known for sure as yet.
        self.rows_left = {}
        # Holes for which terms without holes stand that may be far too great to be looked into again and again.
        self.whole = {}
        # (context, term, kind, ..) rows of terms that must have kinds, which are to be looked at when more is known.
        self.late = []
        self.steps = 0

    def kept(self):
        """Return what is known so far, to come back to."""
        return (dict(self.solved), dict(self.kinds), dict(self.contexts), dict(self.untold), dict(self.rows_left),
                dict(self.whole), list(self.late))

    def come_back(self, kept):
        """Know again just what was known then."""
        solved, kinds, contexts, untold, rows_left, whole, late = kept
        self.late = list(late)
        self.solved = dict(solved)
        self.kinds = dict(kinds)
        self.contexts = dict(contexts)
        self.untold = dict(untold)
        self.rows_left = dict(rows_left)
        self.whole = dict(whole)

    def step(self):
        """Count a step; raise WorkFault for too many."""
        self.steps += 1
        if self.steps > MOST_STEPS_FOUND:
            raise WorkFault("elaboration takes too many steps")

    def hole_of(self, context, kind):
        """Return a fresh hole of a kind, applied to the context's variables."""
        number = len(self.kinds)
        self.kinds[number] = kind
        self.contexts[number] = context
        return ("meta", number, tuple(reversed(variables(len(context)))))

    def untold_kind(self, context):
        """Return a hole for a kind that is not told."""
        hole = self.hole_of(context, ("sort", 1))
        self.untold[hole[1]] = True
        return hole

    def row_kind(self, context):
        """Return a hole for the kind of a row without one, which is of level 1."""
        hole = self.hole_of(context, ("sort", 1))
        self.rows_left[hole[1]] = True
        return hole

    def put(self, number, term):
        """Keep what a hole stands for, under the variables of its context."""
        self.solved[number] = term

    def put_whole(self, number, term):
        """Keep a term without holes for which a hole stands."""
        self.put(number, term)
        self.whole[number] = True

    def filled_in(self, term, most=MOST_NODES_FILLED):
        """Return a term with solved holes filled in; raise WorkFault for one of far too many nodes."""
        return rebuilt_all(self.rows_filled_in(term, most))

    def rows_filled_in(self, term, most):
        """Return the nodes of a term with solved holes filled in, as rebuilt_all takes them."""
        many = 0
        rows = []
        waiting = [term]
        while waiting:
            one = waiting.pop()
            many += 1
            if many > most:
                raise WorkFault("elaboration gives a term that is too large")
            if one[0] == "meta" and one[1] in self.solved:
                if not are_own_variables(one[2]):
                    waiting.append(filled(self.solved[one[1]], one[2], 0))
                elif one[1] in self.whole:
                    rows.append(("whole", self.solved[one[1]]))
                else:
                    waiting.append(self.solved[one[1]])
                continue
            rows.append(one)
            for part, _ in reversed(parts(one)):
                waiting.append(part)
        return rows

    def need_size(self, term):
        """Return a term; raise WorkFault for one of too many nodes."""
        if is_larger(term, MOST_NODES_FOUND):
            raise WorkFault("elaboration gives a term that is too large")
        return term

    def head(self, term, context):
        """Return a term reckoned until its head cannot be reckoned."""
        return self.head_found(term, context)[0]

    def head_found(self, term, context):
        """Return (term reckoned until its head cannot be reckoned, whether that is another one)."""
        # Applications of recursors wait here for what their last arguments are, the innermost one last.
        waiting = []
        is_other = False
        while True:
            argument = self.asked_by(term)
            if argument is not None:
                waiting.append(term)
                term = argument
                continue
            fresh = self.once(term, context)
            while fresh is None:
                if waiting == []:
                    return (term, is_other)
                made = term
                term = waiting.pop()
                fresh = self.recursion(term, made)
            self.step()
            is_other = is_other or waiting == []
            term = self.need_size(fresh)

    def asked_by(self, term):
        """Return the last argument of a recursor that is the head of a term and has all, None for another term."""
        head, arguments = spine(term)
        if head[0] != "rec" or head[1] not in self.signature.data:
            return None
        needed = needed_by(self.signature.data[head[1]])
        return arguments[needed - 1] if len(arguments) >= needed else None

    def once(self, term, context):
        """Return a term reckoned once at its head, which is no recursor, None if that cannot be."""
        head, arguments = spine(term)
        word = head[0]
        if word == "lam" and arguments:
            return apply(put_in(head[3], arguments[0]), arguments[1:])
        if word == "let":
            return apply(put_in(head[4], head[3]), arguments)
        if word == "meta" and head[1] in self.solved:
            return apply(filled(self.solved[head[1]], head[2], 0), arguments)
        if word == "const" and self.signature.value_of(head[1]) is not None:
            return apply(self.signature.value_of(head[1]), arguments)
        if word == "var" and head[1] < len(context) and context[head[1]][2] is not None:
            return apply(lifted(context[head[1]][2], head[1] + 1), arguments)
        return None

    def recursion(self, term, last):
        """Return what a recursor's application is by its law, given what its last argument is, None if it is stuck."""
        head, arguments = spine(term)
        data = self.signature.data[head[1]]
        many = len(data.params)
        cases = len(data.constructors)
        made, given = spine(last)
        owner = self.signature.made_by(made[1]) if made[0] == "const" else None
        if owner is None or owner[0].name != data.name or len(given) != many + len(data.constructors[owner[1]][1]):
            return None
        fields = given[many:]
        found = apply(arguments[many + 1 + owner[1]], fields)
        for place in recursive_fields(data, owner[1]):
            kind = put_in_all(data.constructors[owner[1]][1][place][1], [*arguments[:many], *fields[:place]])
            rows, end = all_pis(kind)
            outer = [lifted(one, len(rows)) for one in arguments[:many + 1 + cases]]
            field = apply(lifted(fields[place], len(rows)), variables(len(rows)))
            value = apply(head, [*outer, *spine(end)[1][many:], field])
            found = ("app", found, binders("lam", rows, value))
        return apply(found, arguments[needed_by(data):])

    def solve(self, one, other, context):
        """Solve the hole at the head of a term applied to different variables, if it can be; return whether it was."""
        head, arguments = spine(one)
        if head[0] != "meta" or head[1] in self.solved:
            return False
        numbers = []
        for argument in [*head[2], *arguments]:
            if argument[0] != "var" or argument[1] in numbers:
                return False
            numbers.append(argument[1])
        # The last argument of the application is the nearest variable of the functions that are made for it.
        inner = numbers[:len(head[2])]
        outer = numbers[len(head[2]):]
        places = {number: place for place, number in enumerate(list(reversed(outer)) + inner)}
        found = moved(other, places, 0, head[1])
        if found is None:
            return False
        for place in reversed(range(len(outer))):
            kept = {number: at for at, number in enumerate(list(reversed(outer[:place])) + inner)}
            kind = moved(self.filled_in(kind_in(context, outer[place])), kept, 0, head[1])
            if kind is None:
                return False
            found = ("lam", context[outer[place]][0], kind, found)
        self.step()
        self.put(head[1], self.need_size(found))
        return True
