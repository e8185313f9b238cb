"""Equality: whether two values are the same when both are reckoned, without reckoning more than is needed.

Terms and values may be nested far deeper than calls may be. Therefore nothing here goes into their parts by calls, and
they are not compared by "==" as a whole.
"""

from kernelstack.errors import KernelError, WorkFault
from kernelstack.terms import lowest_free, parts, spine
from kernelstack.values import MOST_HANDED_ON, Delayed, Reckoner, delayed, free, free_row, value_in

# So many pairs of parts are looked at before two values are reckoned rather than looked into further.
MOST_LOOKS = 500
# So many pairs are looked at to see that values differ, so that it is not tried in vain to find them equal.
MOST_SEEN = 100
# So many parts of values that are written in just the same way are looked at.
MOST_WRITTEN = 20000
# So many steps are made to find arguments equal before what they are given to is reckoned, and so many in vain in all.
MOST_TRIED = 1000
MOST_IN_VAIN = 10000


class Comparing:
    """Two values that are compared, how many binders are around, and the pairs that are to be found equal first.

    These are their arguments, as long as it is tried to find them equal without reckoning what they are given to, and
    after that all their parts but the last ones, which then are compared in the place of the two.
    """

    def __init__(self, one, other, depth):
        # What is to be compared when no pair is left: (one, other, binders around), or () for nothing.
        self.last = (one, other, depth)
        self.pair = self.last
        self.pairs = []
        self.looks = 0
        self.is_trying = False
        # The count at which a reckoning is given up, and the count, when it was begun to try.
        self.bound = 0
        self.start = 0


class Comparer(Reckoner):
    """A reckoner that compares values, and remembers how often it had to unfold."""

    def __init__(self, signature, most):
        Reckoner.__init__(self, signature, most)
        self.vain = 0

    def equal_terms(self, one, other, depth=0):
        """Return True if two terms under so many binders are the same when they are reckoned."""
        row = free_row(depth)
        unfoldings = self.unfoldings
        try:
            return self.equal(delayed(one, row), delayed(other, row), depth)
        except KernelError:
            self.unfoldings = unfoldings
            raise

    def equal(self, one, other, depth):
        """Return True if two values under so many binders are the same when they are reckoned."""
        nesting = self.nesting
        bound = self.bound
        try:
            return self.found_equal(Comparing(one, other, depth))
        finally:
            self.nesting = nesting
            self.bound = bound

    def found_equal(self, comparing):
        """Return whether two values are the same; nesting and bound are put right by the caller."""
        nesting = self.nesting
        # Each one waits here for the answer of the next one, so that hundreds may stand within each other.
        waiting = [comparing]
        answer = None
        while waiting:
            self.nesting = nesting + len(waiting)
            try:
                answer, pair = self.gone_on(waiting[-1], answer)
            except WorkFault:
                # What was just tried to find arguments equal is given up, and the values are reckoned after all.
                while waiting != [] and not waiting[-1].is_trying:
                    waiting.pop()
                if waiting == []:
                    raise
                answer = False
                continue
            if pair is not None:
                waiting.append(Comparing(pair[0], pair[1], waiting[-1].pair[2]))
            elif answer is not None:
                waiting.pop()
        return answer

    def gone_on(self, comparing, answer):
        """Go on to compare two values, told the answer for the last pair, None if there is none.

        Return (answer for the values, None if it is not known, the pair that is to be compared next or None).
        """
        if answer is False and not comparing.is_trying:
            return (False, None)
        if answer is False:
            self.end_trying(comparing)
            self.vain += self.steps - comparing.start
            return (self.taken_apart(comparing), None)
        if comparing.pairs != []:
            return (None, comparing.pairs.pop())
        if comparing.is_trying:
            self.end_trying(comparing)
            return (True, None)
        return (self.looked_at(comparing), None)

    def looked_at(self, comparing):
        """Look at the last pair: return whether its values are the same, None if other pairs are to be compared."""
        if comparing.last == ():
            return True
        comparing.looks += 1
        if comparing.looks > MOST_HANDED_ON:
            raise WorkFault("two values have no end")
        self.step()
        comparing.pair = comparing.last
        one, other, _ = comparing.pair
        # Long numbers and the like are not looked through as a whole again and again.
        if comparing.looks & (comparing.looks - 1) == 0 and written_alike(one, other):
            return True
        if alike(one, other):
            return True
        pairs = self.paired_arguments(one, other)
        if pairs == [] or self.vain > MOST_IN_VAIN or self.differ(pairs):
            return self.taken_apart(comparing)
        comparing.pairs = pairs[::-1]
        comparing.is_trying = True
        comparing.start = self.steps
        comparing.bound = self.bound
        self.bound = min(self.bound, self.steps + MOST_TRIED)
        return None

    def end_trying(self, comparing):
        """End the trial to find arguments equal."""
        comparing.is_trying = False
        comparing.pairs = []
        self.bound = comparing.bound

    def paired_arguments(self, one, other):
        """Return pairs of arguments of two delayed applications of the same definition or recursor, or none."""
        if not isinstance(one, Delayed) or not isinstance(other, Delayed):
            return []
        head, arguments = spine(one.term)
        opposite, others = spine(other.term)
        if head[0] not in ("const", "rec") or head != opposite or len(arguments) != len(others):
            return []
        if head[0] == "const" and self.signature.value_of(head[1]) is None:
            return []
        return [(delayed(argument, one.around), delayed(another, other.around))
                for argument, another in zip(arguments, others)]

    def differ(self, pairs):
        """Return True if the values of a pair differ in what can be seen of them without reckoning."""
        waiting = list(pairs)
        for _ in range(MOST_SEEN):
            if not waiting:
                return False
            one, other = waiting.pop()
            one = self.seen(one)
            other = self.seen(other)
            if one is None or other is None:
                continue
            if one[0] != other[0] or one[1] != other[1] or len(one[2]) != len(other[2]):
                return True
            waiting.extend(list(zip(one[2], other[2])))
        return False

    def seen(self, one):
        """Return (word, head, arguments) of a value as far as it can be seen without reckoning, None if it cannot."""
        if isinstance(one, Delayed) and one.found is None:
            head, arguments = spine(one.term)
            if head[0] != "const" or self.signature.value_of(head[1]) is not None:
                return None
            return ("stuck", head, [delayed(argument, one.around) for argument in arguments])
        if isinstance(one, Delayed):
            one = one.found
        if one[0] == "stuck":
            return one
        return (one[0], one[1] if one[0] == "sort" else None, ())

    def taken_apart(self, comparing):
        """Reckon two values: return whether they are the same, None if that is to be told by pairs of their parts.

        The last parts are kept apart, so that long numbers do not stand within each other.
        """
        one, other, depth = comparing.pair
        one = self.asked(one)
        other = self.asked(other)
        if one[0] != other[0]:
            return False
        if one[0] == "sort":
            return one == other
        if one[0] == "stuck":
            if one[1] != other[1] or len(one[2]) != len(other[2]):
                return False
            pairs = list(zip(one[2], other[2]))
            comparing.last = (*pairs.pop(), depth) if pairs != [] else ()
        else:
            pairs = [(one[2], other[2])]
            bodies = [delayed(term, (free(depth),) + row) for term, row in (one[3], other[3])]
            comparing.last = (bodies[0], bodies[1], depth + 1)
        comparing.pairs = pairs[::-1]
        return None


def alike(one, other):
    """Return True if two values are the same as far as this can be told without reckoning."""
    pairs = [(one, other)]
    for _ in range(MOST_LOOKS):
        if not pairs:
            return True
        one, other = pairs.pop()
        fresh = pairs_of_values(one, other)
        if fresh is None:
            return False
        pairs.extend(fresh)
    return False


def pairs_of_values(one, other):
    """Return pairs that are all to be the same if two values are to be, None if they may differ.

    A pair is of values, or of closures: (term, values of its variables, how many inner binders have no value).
    """
    if isinstance(one, tuple) and isinstance(one[0], tuple):
        return pairs_of_closures(one, other)
    if isinstance(one, Delayed) and isinstance(other, Delayed):
        return [] if one == other else [((one.term, one.around, 0), (other.term, other.around, 0))]
    if isinstance(one, Delayed) or isinstance(other, Delayed):
        return None
    if one[0] != other[0]:
        return None
    if one[0] == "sort":
        return [] if one == other else None
    if one[0] == "stuck":
        return list(zip(one[2], other[2])) if one[1] == other[1] and len(one[2]) == len(other[2]) else None
    term, row = one[3]
    opposite, around = other[3]
    return [(one[2], other[2]), ((term, row, 1), (opposite, around, 1))]


def pairs_of_closures(one, other):
    """Return pairs that are all to be the same if two closures are to be, None if they may differ."""
    term, row, depth = one
    opposite, around, _ = other
    if term[0] != opposite[0]:
        return None
    if term[0] == "app":
        return [((term[1], row, depth), (opposite[1], around, depth)),
                ((term[2], row, depth), (opposite[2], around, depth))]
    if term[0] == "var":
        if term[1] < depth or opposite[1] < depth:
            return [] if term == opposite else None
        return [(value_in(row, term[1] - depth), value_in(around, opposite[1] - depth))]
    if term[0] in ("const", "sort", "rec"):
        return [] if term == opposite else None
    found = []
    for (part, under), (against, _) in zip(parts(term), parts(opposite)):
        found.append(((part, row, depth + under), (against, around, depth + under)))
    return found


def written_alike(one, other):
    """Return True if two values are written in just the same way, and are not too large to see that."""
    if not isinstance(one, Delayed) or not isinstance(other, Delayed):
        return are_the_same(one, other)
    # Rows are looked at first, since they are what differs more often. What is bound nowhere is found later.
    if not are_the_same(one.around, other.around):
        return False
    return are_the_same(one.term, other.term) and lowest_free(one.term) <= len(one.around)


def are_the_same(one, other):
    """Return True if two tuples are the same, and have no more than so many parts; what else is in them is compared."""
    waiting = [(one, other)]
    for _ in range(MOST_WRITTEN):
        if not waiting:
            return True
        one, other = waiting.pop()
        if not isinstance(one, tuple) or not isinstance(other, tuple):
            if one != other:
                return False
        elif len(one) != len(other):
            return False
        else:
            for part, opposite in zip(one, other):
                if isinstance(part, tuple):
                    waiting.append((part, opposite))
                elif part != opposite:
                    return False
    return False
