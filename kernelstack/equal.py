"""Equality: whether two values are the same when both are reckoned, without reckoning more than is needed."""

from kernelstack.errors import WorkFault
from kernelstack.terms import parts, spine
from kernelstack.values import MOST_HANDED_ON, Delayed, Reckoner, delayed, free, free_row

# So many pairs of parts are looked at before two values are reckoned rather than looked into further.
MOST_LOOKS = 500
# So many steps are made to find arguments equal before what they are given to is reckoned, and so many in vain in all.
MOST_TRIED = 1000
MOST_IN_VAIN = 10000


class Comparer(Reckoner):
    """A reckoner that compares values, and remembers how often it had to unfold."""

    def __init__(self, signature, most):
        Reckoner.__init__(self, signature, most)
        self.unfoldings = 0
        self.vain = 0

    def unfolded(self, name):
        """Return the value of a definition, None for another name."""
        body = super().unfolded(name)
        if body is not None:
            self.unfoldings += 1
        return body

    def equal_terms(self, one, other, depth=0):
        """Return True if two terms under so many binders are the same when they are reckoned."""
        row = free_row(depth)
        return self.equal(delayed(one, row), delayed(other, row), depth)

    def equal(self, one, other, depth):
        """Return True if two values under so many binders are the same when they are reckoned."""
        nesting = self.nesting
        self.nesting = nesting + 1
        try:
            for _ in range(MOST_HANDED_ON):
                self.step()
                if alike(one, other) or self.equal_by_arguments(one, other, depth):
                    return True
                rest = self.last_pair(self.asked(one), self.asked(other), depth)
                if rest is None:
                    return False
                if rest == ():
                    return True
                one, other, depth = rest
            raise WorkFault("two values have no end")
        finally:
            self.nesting = nesting

    def equal_by_arguments(self, one, other, depth):
        """Return True if two delayed applications of the same name have arguments that are soon found equal."""
        pairs = self.paired_arguments(one, other)
        if pairs == [] or self.vain > MOST_IN_VAIN:
            return False
        start = self.steps
        if self.soon_equal(pairs, depth):
            return True
        self.vain += self.steps - start
        return False

    def soon_equal(self, pairs, depth):
        """Return True if the values of each pair are the same, and found to be so in a few steps."""
        bound = self.bound
        self.bound = min(bound, self.steps + MOST_TRIED)
        try:
            for argument, opposite in pairs:
                if not self.equal(argument, opposite, depth):
                    return False
            return True
        except WorkFault:
            return False
        finally:
            self.bound = bound

    def paired_arguments(self, one, other):
        """Return pairs of arguments of two delayed applications of the same definition or recursor, or none."""
        if not isinstance(one, Delayed) or not isinstance(other, Delayed):
            return []
        head, arguments = spine(one.term)
        opposite, others = spine(other.term)
        if head != opposite or len(arguments) != len(others):
            return []
        if head[0] != "rec" and (head[0] != "const" or self.signature.value_of(head[1]) is None):
            return []
        return [(delayed(argument, one.around), delayed(another, other.around))
                for argument, another in zip(arguments, others)]

    def last_pair(self, one, other, depth):
        """Return the last parts of two values, and the binders around; () if there are none, None if others differ.

        The last parts are left to the caller, so that long numbers do not stand within each other.
        """
        if one[0] != other[0]:
            return None
        if one[0] == "sort":
            return () if one == other else None
        if one[0] == "stuck":
            return self.last_arguments(one, other, depth)
        if not self.equal(one[2], other[2], depth):
            return None
        bodies = []
        for term, row in (one[3], other[3]):
            bodies.append(delayed(term, (free(depth),) + row))
        return (bodies[0], bodies[1], depth + 1)

    def last_arguments(self, one, other, depth):
        """Return the last arguments of what is stuck, and the binders around; () or None as told of last_pair."""
        if one[1] != other[1] or len(one[2]) != len(other[2]):
            return None
        if one[2] == ():
            return ()
        for argument, opposite in zip(one[2][:-1], other[2][:-1]):
            if not self.equal(argument, opposite, depth):
                return None
        return (one[2][-1], other[2][-1], depth)


def alike(one, other):
    """Return True if two values are the same as far as this can be told without reckoning."""
    pairs = [(one, other)]
    for _ in range(MOST_LOOKS):
        if not pairs:
            return True
        one, other = pairs.pop()
        if one == other:
            continue
        fresh = pairs_of_values(one, other)
        if fresh is None:
            return False
        pairs.extend(fresh)
    return False


def pairs_of_values(one, other):
    """Return pairs that are all to be the same if two values are to be, None if they may differ.

    A pair is of values, or of closures: (term, values of its variables, how many inner binders have no value).
    """
    if isinstance(one, Delayed) and isinstance(other, Delayed):
        return [((one.term, one.around, 0), (other.term, other.around, 0))]
    if isinstance(one, Delayed) or isinstance(other, Delayed):
        return None
    if isinstance(one[0], tuple) and isinstance(other[0], tuple):
        return pairs_of_closures(one, other)
    if one[0] == "stuck" and other[0] == "stuck" and one[1] == other[1] and len(one[2]) == len(other[2]):
        return list(zip(one[2], other[2]))
    if one[0] in ("pi", "lam") and one[0] == other[0]:
        term, row = one[3]
        opposite, around = other[3]
        return [(one[2], other[2]), ((term, row, 1), (opposite, around, 1))]
    return None


def pairs_of_closures(one, other):
    """Return pairs that are all to be the same if two closures are to be, None if they may differ."""
    term, row, depth = one
    opposite, around, _ = other
    if term[0] != opposite[0]:
        return None
    if term[0] == "var":
        if term[1] < depth or opposite[1] < depth:
            return [] if term == opposite else None
        return [(row[term[1] - depth], around[opposite[1] - depth])]
    if parts(term) == ():
        return [] if term == opposite else None
    found = []
    for (part, under), (against, _) in zip(parts(term), parts(opposite)):
        found.append(((part, row, depth + under), (against, around, depth + under)))
    return found
