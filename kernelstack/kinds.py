"""Kinds of terms with holes, as far as they are known, and what is to be looked at again when more is."""

from kernelstack.data import recursor_kind
from kernelstack.errors import KindFault
from kernelstack.holes import Holes, filled, holes_of, kind_in
from kernelstack.terms import MOST_LEVEL, pi_level, put_in, spine


class KindFinder(Holes):
    """Holes, and the kinds of terms in which they stand: these were elaborated, and are not checked anew."""

    def __init__(self, signature):
        Holes.__init__(self, signature)

    def kind_found(self, term, context):
        """Return the kind of a term, perhaps with holes."""
        # Terms of which a part's kind is looked for wait here, with what is needed to go on: (word, that, context).
        waiting = []
        while True:
            word = term[0]
            if word == "app":
                term, arguments = spine(term)
                waiting.append((word, arguments, context))
            elif word in ("lam", "let"):
                waiting.append((word, term, context))
                context = ((term[1], term[2], term[3] if word == "let" else None),) + context
                term = term[-1]
            elif word == "pi":
                waiting.append((word, term, context))
                term = term[2]
            else:
                kind = self.kind_of_leaf(term, context)
                while waiting != [] and waiting[-1][0] != "pi":
                    kind = self.kind_of_whole(waiting.pop(), kind)
                if waiting == []:
                    return kind
                _, term, context = waiting.pop()
                level = self.level_told(kind, context)
                context = ((term[1], term[2], None),) + context
                waiting.append(("body", level, context))
                term = term[3]

    def kind_of_leaf(self, term, context):
        """Return the kind of a term without parts, or of a hole."""
        if term[0] == "var":
            return kind_in(context, term[1])
        if term[0] == "const":
            return self.signature.kind_of(term[1])
        if term[0] == "rec":
            return self.recursor_kind_found(term)
        if term[0] == "meta":
            return filled(self.kinds[term[1]], term[2], 0)
        return self.sort_kind(term[1])

    def kind_of_whole(self, row, kind):
        """Return the kind of a term, given that of its last part, or of what is applied in it."""
        word, told, context = row
        if word == "app":
            return self.application_kind(kind, told, context)
        if word == "lam":
            return ("pi", told[1], told[2], kind)
        if word == "let":
            return put_in(kind, told[3])
        return ("sort", pi_level(told, self.level_told(kind, context)))

    def application_kind(self, kind, arguments, context):
        """Return the kind of an application, given that of what is applied."""
        for argument in arguments:
            if kind[0] != "pi":
                kind = self.head(kind, context)
            if kind[0] != "pi":
                raise KindFault("what is no function is applied")
            kind = self.need_size(put_in(kind[3], argument))
        return kind

    def sort_kind(self, level):
        """Return the kind of a sort; raise KindFault for the highest one."""
        if level >= MOST_LEVEL:
            raise KindFault("a sort has no kind")
        return ("sort", level + 1)

    def recursor_kind_found(self, term):
        """Return the kind of a recursor; raise KindFault for a level to which there is none."""
        data = self.signature.data_named(term[1])
        if data.level == 0 and term[2] > 0:
            raise KindFault(f"{term[1]} has no recursor to that level")
        return recursor_kind(data, term[2])

    def level_found(self, term, context):
        """Return the level of a kind, perhaps with holes; raise KindFault for a term that is none."""
        return self.level_told(self.kind_found(term, context), context)

    def level_told(self, kind, context):
        """Return the level of what has a kind; raise KindFault if that is no sort."""
        kind = self.head(kind, context)
        if kind[0] != "sort":
            raise KindFault("a term is no kind")
        return kind[1]

    def check_rows(self):
        """Raise KindFault if the kind of a row without one was found to be of another level than 1."""
        for number in list(self.rows_left):
            if number in self.solved and self.is_without_holes(self.solved[number], self.contexts[number]):
                if self.level_found(self.solved[number], self.contexts[number]) != 1:
                    raise KindFault("a row without a kind has one of level 1")
                del self.rows_left[number]

    def is_without_holes(self, term, context):
        """Return True if neither a term nor its variables' kinds and values have holes that are not solved."""
        return self.holes_left(term, context) == []

    def holes_left(self, term, context):
        """Return the numbers of the holes that are not solved of a term and of its variables' kinds and values."""
        found = []
        terms = [term] + [kind for _, kind, _ in context] + [value for _, _, value in context if value is not None]
        for one in terms:
            if holes_of(one) != []:
                found.extend(holes_of(self.filled_in(one)))
        return found
