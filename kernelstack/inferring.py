"""Inferring: the kinds of terms, and whether terms have kinds.

What is still to be done stands in a list, the next thing last, and what was found so far in another one, so that terms
may be of any depth:

("kind", term, context) finds the kind of a term, ("level",) exchanges a kind for the level of what has it, ("drop",)
forgets what was found last. ("check", term, kind, context) asks whether a term has a kind, ("equal", kind, context)
whether the kind that was found last is that one. ("arguments", ..), ("function", ..), ("product", ..) and ("body", ..)
go on with an application, a function, a product, and a function that is checked, when parts of it are done.
"""

from kernelstack.data import recursor_kind
from kernelstack.errors import KindFault
from kernelstack.terms import MOST_LEVEL, binders, pi_level, spine
from kernelstack.values import delayed, free, value_in


def row_of(context):
    """Return the values of a context's variables, the nearest first."""
    return tuple([value for _, _, value in context])


def with_variable(context, name, kind):
    """Return a context with one more variable, which has no value."""
    return ((name, kind, free(len(context))),) + context


class Inferrer:
    """What finds the kinds of terms, by what reckons and compares them.

    A context is (name, kind, value) rows of variables, the nearest first.
    """

    def __init__(self, comparer):
        self.comparer = comparer

    def found_by(self, tasks):
        """Return what is found by tasks, in order."""
        found = []
        waiting = tasks[::-1]
        while waiting:
            task = waiting.pop()
            word = task[0]
            if word == "kind":
                waiting.extend(self.tasks_for_kind(task[1], task[2], found)[::-1])
            elif word == "check":
                waiting.extend(self.tasks_for_check(task[1], task[2], task[3])[::-1])
            elif word == "arguments":
                waiting.extend(self.tasks_for_arguments(task, found)[::-1])
            elif word == "body":
                waiting.extend(self.tasks_for_body(task[1], task[2], task[3])[::-1])
            elif word == "equal":
                self.need_equal(found.pop(), task[1], task[2])
            elif word == "level":
                found.append(self.level_told(found.pop()))
            elif word == "function":
                found.append(self.kind_of_function(task, found.pop()))
            elif word == "product":
                found.append(kind_of_product(task[1], found))
            else:
                found.pop()
        return found

    def tasks_for_kind(self, term, context, found):
        """Return the tasks that find the kind of a term, none if it is found at once."""
        word = term[0]
        if word == "app":
            head, arguments = spine(term)
            return [("kind", head, context), ("arguments", arguments, 0, context, row_of(context))]
        if word == "let":
            tasks, inner = self.tasks_for_definition(term, context)
            return tasks + [("kind", term[4], inner)]
        if word == "pi":
            return self.tasks_for_product(term, context)
        if word == "lam":
            return self.tasks_for_function(term, context)
        found.append(self.kind_of_leaf(term, context))
        return []

    def kind_of_leaf(self, term, context):
        """Return the kind of a term without parts."""
        if term[0] == "var":
            return value_in(context, term[1])[1]
        if term[0] == "const":
            return delayed(self.comparer.signature.kind_of(term[1]), ())
        if term[0] == "rec":
            return self.kind_of_recursor(term[1], term[2])
        if term[1] >= MOST_LEVEL:
            raise KindFault("the highest sort has no kind")
        return ("sort", term[1] + 1)

    def tasks_for_product(self, term, context):
        """Return the tasks that find the sort of a product."""
        tasks = []
        many = 0
        while term[0] == "pi":
            tasks.extend([("kind", term[2], context), ("level",)])
            context = with_variable(context, term[1], delayed(term[2], row_of(context)))
            term = term[3]
            many += 1
        return tasks + [("kind", term, context), ("level",), ("product", many)]

    def tasks_for_function(self, term, context):
        """Return the tasks that find the kind of a function: the product over the same kind."""
        tasks = []
        rows = []
        around = context
        while term[0] == "lam":
            tasks.extend([("kind", term[2], around), ("level",), ("drop",)])
            rows.append((term[1], term[2]))
            around = with_variable(around, term[1], delayed(term[2], row_of(around)))
            term = term[3]
        return tasks + [("kind", term, around), ("function", rows, len(around), context)]

    def kind_of_function(self, task, kind):
        """Return the kind of a function, given that of its body."""
        _, rows, depth, context = task
        return self.comparer.reckoned(binders("pi", rows, self.comparer.back(kind, depth)), row_of(context))

    def kind_of_recursor(self, name, level):
        """Return the kind of the recursor of data to a level."""
        data = self.comparer.signature.data_named(name)
        if data.level == 0 and level > 0:
            raise KindFault(f"{name} has a recursor to level 0 alone")
        return delayed(recursor_kind(data, level), ())

    def tasks_for_arguments(self, task, found):
        """Return the tasks for the arguments from a place on; the kind of what is applied to them was found last."""
        _, arguments, place, context, row = task
        if place == len(arguments):
            return []
        kind = self.comparer.asked(found.pop())
        if kind[0] != "pi":
            raise KindFault("what is no function is applied")
        body, around = kind[3]
        found.append(delayed(body, (delayed(arguments[place], row),) + around))
        return [("check", arguments[place], kind[2], context), ("arguments", arguments, place + 1, context, row)]

    def tasks_for_definition(self, term, context):
        """Return (tasks that check a local definition, the context with its variable, which has the value)."""
        row = row_of(context)
        kind = delayed(term[2], row)
        tasks = [("kind", term[2], context), ("level",), ("drop",), ("check", term[3], kind, context)]
        return (tasks, ((term[1], kind, delayed(term[3], row)),) + context)

    def tasks_for_check(self, term, kind, context):
        """Return the tasks that find whether a term has a kind."""
        if term[0] == "let":
            tasks, inner = self.tasks_for_definition(term, context)
            return tasks + [("check", term[4], kind, inner)]
        if term[0] != "lam":
            return [("kind", term, context), ("equal", kind, context)]
        kind = self.comparer.asked(kind)
        if kind[0] != "pi":
            raise KindFault("a function stands where none may")
        return [("kind", term[2], context), ("level",), ("drop",), ("body", term, kind, context)]

    def tasks_for_body(self, term, kind, context):
        """Return the tasks that find whether a function, whose variable's kind is one, has a product as its kind."""
        own = delayed(term[2], row_of(context))
        self.need_equal(own, kind[2], context)
        body, around = kind[3]
        inner = with_variable(context, term[1], own)
        return [("check", term[3], delayed(body, (free(len(context)),) + around), inner)]

    def level_told(self, kind):
        """Return the level of what has a kind; raise KindFault if that is no sort."""
        kind = self.comparer.asked(kind)
        if kind[0] != "sort":
            raise KindFault("a term is no kind")
        return kind[1]

    def need_equal(self, one, other, context):
        """Raise KindFault if two kinds are not the same when they are reckoned."""
        if not self.comparer.equal(one, other, len(context)):
            raise KindFault("a term has another kind than it must")


def kind_of_product(many, found):
    """Return the sort of so many products, taking their levels, and that of the body, from what was found last."""
    level = found.pop()
    for _ in range(many):
        level = pi_level(found.pop(), level)
    return ("sort", level)
