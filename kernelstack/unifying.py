"""Unifying: holes solved so that two terms are the same."""

from kernelstack.equal import Comparer
from kernelstack.errors import HoleFault, KindFault, WorkFault
from kernelstack.holes import holes_of
from kernelstack.kinds import KindFinder
from kernelstack.terms import is_deeper, same, spine
from kernelstack.values import MOST_STEPS, delayed, free

# In the middle of a proof terms may be deeper than the kernel can reckon: these are looked into step by step.
MOST_DEEP_COMPARED = 200
PROP = ("sort", 0)


class Trial:
    """Pairs that are to be made the same, the first one last, and what was known before.

    Its word tells what is done where that is impossible: "all" is refused; if it is "arguments", a pair is reckoned
    rather than made the same by its arguments; if it is "kind", what a hole stands for is left to be looked at again.
    """

    def __init__(self, word, pairs, before, given):
        self.word = word
        self.pairs = pairs
        self.before = before
        # The pair, or the row of what is looked at again.
        self.given = given


class Unifier(KindFinder):
    """Holes that are solved by what must be the same."""

    def __init__(self, signature):
        KindFinder.__init__(self, signature)

    def unified(self, one, other, context):
        """Solve holes so that two terms are the same; some are solved before that is found impossible."""
        # Trials wait here for those within them, so that any number of them may stand within each other.
        trials = [Trial("all", [(one, other, context)], None, None)]
        while trials:
            if trials[-1].pairs == []:
                trials.pop()
                continue
            pair = trials[-1].pairs.pop()
            try:
                if len(pair) == 3:
                    self.begin_pair(pair, trials)
                else:
                    self.reckon_pair(pair[0], trials)
            except HoleFault:
                while trials != [] and trials[-1].word == "all":
                    trials.pop()
                if trials == []:
                    raise
                self.give_up(trials)
            except KindFault:
                while trials != [] and trials[-1].word != "arguments":
                    trials.pop()
                if trials == []:
                    raise
                self.give_up(trials)

    def give_up(self, trials):
        """End a trial that is impossible, and go on otherwise."""
        trial = trials.pop()
        self.come_back(trial.before)
        if trial.word == "arguments":
            trials[-1].pairs.append((trial.given,))
        else:
            context, term, kind = trial.given
            self.look_again(context, term, kind, True)

    def begin_pair(self, pair, trials):
        """Make a pair the same, or begin to."""
        one, other, context = pair
        self.step()
        one = self.filled_in(one)
        other = self.filled_in(other)
        if same(one, other):
            return
        answer = self.answer_without_holes(one, other, context)
        if answer is False:
            raise KindFault("a term has another kind than it must")
        if answer is True:
            return
        if self.solve(one, other, context):
            self.need_kind(spine(one)[0][1], trials)
        elif self.solve(other, one, context):
            self.need_kind(spine(other)[0][1], trials)
        else:
            pair = (one, other, context)
            pairs = [(argument, another, context) for argument, another in self.paired_arguments(one, other)]
            if pairs == []:
                self.reckon_pair(pair, trials)
            else:
                trials.append(Trial("arguments", pairs[::-1], self.kept(), pair))

    def reckon_pair(self, pair, trials):
        """Reckon a pair at their heads, and go on with that, or with their parts."""
        one, other, context = pair
        first, is_other = self.head_found(one, context)
        second, is_another = self.head_found(other, context)
        if is_other or is_another:
            trials[-1].pairs.append((first, second, context))
        else:
            trials[-1].pairs.extend(self.pairs_of_parts(one, other, context)[::-1])

    def answer_without_holes(self, one, other, context):
        """Return whether two terms are the same, None if they have holes, or are too deep for the kernel to tell."""
        if holes_of(one) != [] or holes_of(other) != [] or not self.has_known_values(context):
            return None
        try:
            return self.compared(one, other, context)
        except WorkFault:
            if is_deeper(one, MOST_DEEP_COMPARED) or is_deeper(other, MOST_DEEP_COMPARED):
                return None
            raise

    def compared(self, one, other, context):
        """Return True if two terms without holes are the same when they are reckoned."""
        row = self.values_of(context)
        return Comparer(self.signature, MOST_STEPS).equal(delayed(one, row), delayed(other, row), len(context))

    def need_kind(self, number, trials):
        """See to it that what a hole was found to stand for has the kind of the hole."""
        if number in self.untold:
            return
        context = self.contexts[number]
        kind = self.kind_found(self.solved[number], context)
        row = (context, self.solved[number], self.kinds[number])
        trials.append(Trial("kind", [(kind, self.kinds[number], context)], self.kept(), row))
        if self.is_unsure(self.solved[number], context):
            self.look_again(context, self.solved[number], self.kinds[number], False)

    def fit(self, term, found, kind, context):
        """Make the kind found for a term the one that it must have, and look again if it may be another one."""
        self.unified(found, kind, context)
        if self.is_unsure(term, context):
            self.look_again(context, term, kind, False)

    def is_unsure(self, term, context):
        """Return True if a term may be of another level than it seems, for what kinds stand for that are not told."""
        if all(number in self.solved for number in self.untold):
            return False
        return any(number in self.untold for number in self.holes_left(term, context))

    def look_again(self, context, term, kind, is_for_all):
        """Keep a term that must have a kind, to look at it when all is known, or when just its level is sure."""
        self.late.append((context, term, kind, is_for_all))

    def check_late(self):
        """Raise KindFault if what is known by now is of another kind, or of another level, than it was taken to be."""
        self.check_rows()
        rows = self.late
        self.late = []
        for row in rows:
            if self.is_too_early(row):
                self.late.append(row)
            else:
                self.check_again(row)

    def is_too_early(self, row):
        """Return True if what a row of late tells cannot be looked at as yet."""
        context, term, kind, is_for_all = row
        if is_for_all:
            return not self.is_without_holes(term, context) or not self.is_without_holes(kind, ())
        return self.is_unsure(term, context)

    def check_again(self, row):
        """Raise KindFault if a term that is looked at again has another kind than it must."""
        context, term, kind, _ = row
        kept = self.kept()
        try:
            self.unified(self.kind_found(self.filled_in(term), context), kind, context)
        except HoleFault:
            self.come_back(kept)
            self.look_again(context, term, kind, True)

    def paired_arguments(self, one, other):
        """Return pairs of arguments of two applications of the same definition or recursor, or none."""
        head, arguments = spine(one)
        opposite, others = spine(other)
        if head[0] not in ("const", "rec") or head != opposite or len(arguments) != len(others):
            return []
        if head[0] == "const" and self.signature.value_of(head[1]) is None:
            return []
        return list(zip(arguments, others))

    def pairs_of_parts(self, one, other, context):
        """Return rows of parts that are to be made the same of two terms that cannot be reckoned at their heads."""
        if one[0] in ("pi", "lam") and one[0] == other[0]:
            return [(one[2], other[2], context), (one[3], other[3], ((one[1], one[2], None),) + context)]
        head, arguments = spine(one)
        opposite, others = spine(other)
        if head[0] == "meta" and opposite[0] == "meta" and head[1] == opposite[1]:
            arguments = [*head[2], *arguments]
            others = [*opposite[2], *others]
        elif head[0] not in ("var", "const", "rec") or head != opposite:
            self.refuse(one, other)
        if len(arguments) != len(others):
            self.refuse(one, other)
        return [(argument, another, context) for argument, another in zip(arguments, others)]

    def refuse(self, one, other):
        """Raise HoleFault if a hole may be what keeps two terms apart, KindFault if none can be."""
        for term in (one, other):
            head = spine(term)[0]
            if head[0] == "meta" or (head[0] == "rec" and holes_of(term) != []):
                raise HoleFault("what a hole stands for is not found")
        raise KindFault("a term has another kind than it must")

    def has_known_values(self, context):
        """Return True if no value of a context's variables has holes."""
        return self.is_without_holes(PROP, tuple([(name, PROP, value) for name, _, value in context]))

    def values_of(self, context):
        """Return the values of a context's variables as values.py tells them, the nearest first."""
        row = ()
        for _, _, value in reversed(context):
            row = (free(len(row)) if value is None else delayed(self.filled_in(value), row),) + row
        return row
