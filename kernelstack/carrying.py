"""Carrying out: terms in which functions applied to arguments are carried out, and nothing else is reckoned."""

from kernelstack.errors import WorkFault
from kernelstack.terms import parts, rebuilt_all

# So many nodes are made, and so many are looked at to find them.
MOST_NODES_MADE = 100000
MOST_NODES_SEEN = 1000000


class Argument:
    """A term, what its nearest variables stand for, and (head, that of the head, arguments) once that was asked for.

    A variable stands for another argument, or for that of a binder of what is made, told by the number of binders
    around. Of the arguments at a head, the first one stands last.
    """

    def __init__(self, term, row):
        self.term = term
        self.around = row
        self.found = None


class Carrier:
    """How many nodes may still be looked at."""

    def __init__(self):
        self.room = MOST_NODES_SEEN

    def head_of(self, one):
        """Return what an argument is at its head, and keep it, so that it is found once however often it is used."""
        # Arguments that ask for another one at their head, and what that is applied to there, wait here.
        waiting = []
        term, row, given = one.found or (one.term, one.around, [])
        while True:
            self.room -= 1
            if self.room < 0:
                raise WorkFault("a kind is too large")
            if term[0] == "app":
                given.append(Argument(term[2], row))
                term = term[1]
            elif term[0] == "lam" and given != []:
                row = (given.pop(),) + row
                term = term[3]
            elif is_given(term, row):
                waiting.append((one, given))
                one = row[term[1]]
                term, row, given = one.found or (one.term, one.around, [])
            else:
                one.found = (term, row, given)
                if waiting == []:
                    return one.found
                one, outer = waiting.pop()
                given = outer + given


def is_given(term, row):
    """Return True for a variable that stands for an argument."""
    return term[0] == "var" and term[1] < len(row) and isinstance(row[term[1]], Argument)


def carried_out(term):
    """Return a term in which functions applied to arguments are carried out; raise WorkFault for one too large."""
    carrier = Carrier()
    rows = []
    waiting = [(Argument(term, ()), 0)]
    while waiting:
        one, depth = waiting.pop()
        head, row, given = carrier.head_of(one)
        if len(rows) > MOST_NODES_MADE:
            raise WorkFault("a kind is too large")
        rows.extend([("app",)] * len(given))
        rows.append(variable_at(head, row, depth) if head[0] == "var" else head)
        waiting.extend([(argument, depth) for argument in given])
        for part, under in reversed(parts(head)):
            waiting.append((Argument(part, (depth,) + row if under else row), depth + under))
    return rebuilt_all(rows)


def variable_at(head, row, depth):
    """Return the variable that stands under so many binders for one that stands for itself."""
    if head[1] < len(row):
        return ("var", depth - 1 - row[head[1]])
    return ("var", head[1] - len(row) + depth)
