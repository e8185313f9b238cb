"""Values: terms reckoned as far as their heads, with closures for what stands under binders.

("sort", level), ("pi", name, kind, closure), ("lam", name, kind, closure) and ("stuck", head, arguments), where a head
is ("free", number), ("const", name) or ("rec", data name, level). A closure is (term, values of its variables).

While values are worked with, arguments, kinds and variables' values may be Delayed: they are reckoned when they are
asked for, so that a recursor's value for a field costs nothing where its case does not use it. A free variable has the
number of binders around its own one, so that it is the same further in.
"""

from kernelstack.data import recursive_fields
from kernelstack.errors import KernelError, KindFault, WorkFault
from kernelstack.terms import all_pis, apply, binders, rebuilt_all, spine, variables

MOST_STEPS = 200000
MOST_NESTED = 180
# A value that is asked for last stands within the one that asks for it, as others do; but as long as it is just handed
# on, many more may stand so, since what comes to an end by this does so sooner.
MOST_HANDED_ON = 10000


class Delayed:
    """A term and the values of its variables, its value once it was asked for, and the one in which nothing waits."""

    def __init__(self, term, around):
        self.term = term
        self.around = around
        self.found = None
        self.whole = None


def delayed(term, row):
    """Return what stands for a term's value until it is asked for."""
    if term[0] == "var":
        return value_in(row, term[1])
    return term if term[0] == "sort" else Delayed(term, row)


def value_in(row, number):
    """Return the value of a variable; raise KindFault for one that no binder around binds."""
    if number >= len(row):
        raise KindFault("a variable is bound nowhere")
    return row[number]


def free(number):
    """Return the value of a variable that has none, with so many binders around its own one."""
    return ("stuck", ("free", number), ())


def free_row(depth):
    """Return the values of so many variables that have none, the nearest first."""
    return tuple([free(number) for number in reversed(range(depth))])


def needed_by(data):
    """Return how many arguments the data's recursor takes."""
    return len(data.params) + 1 + len(data.constructors) + len(data.indices) + 1


def hypothesis_of(data, level, number, place):
    """Return the recursor's value for a recursive field, as a term.

    Its variables are: the fields before, and the parameters, the nearest first; then the goal, the cases, the field.
    """
    rows, end = all_pis(data.constructors[number][1][place][1])
    many = len(data.params)
    params = variables(many, len(rows) + place)
    start = len(rows) + place + many
    cases = [("var", start + case) for case in range(len(data.constructors) + 1)]
    field = apply(("var", start + len(cases)), variables(len(rows)))
    indices = spine(end)[1][many:]
    return binders("lam", rows, apply(("rec", data.name, level), [*params, *cases, *indices, field]))


def hypotheses_of(data, level, number, arguments, fields):
    """Return (term, values of its variables) of the recursor's value for each recursive field, in order.

    arguments are those of the recursor, and fields what a constructor was applied to.
    """
    many = len(data.params)
    cases = arguments[many:many + 1 + len(data.constructors)]
    found = []
    for place in recursive_fields(data, number):
        around = tuple(reversed(arguments[:many] + fields[:place]))
        found.append((hypothesis_of(data, level, number, place), around + cases + (fields[place],)))
    return found


class Reckoner:
    """A signature, how many steps were made and may be made, and how many reckonings stand within each other."""

    def __init__(self, signature, most=MOST_STEPS):
        self.signature = signature
        self.most = most
        # The count at which a reckoning is given up: a checker moves it on for each thing that it is asked.
        self.bound = most
        self.steps = 0
        self.unfoldings = 0
        self.nesting = 0
        self.handed_on = 0

    def step(self):
        """Count a step; raise WorkFault for too many, or too many reckonings within each other."""
        self.steps += 1
        if self.steps > self.bound or self.nesting > MOST_NESTED:
            raise WorkFault("a reckoning takes too many steps")

    def hand_on(self):
        """Count a step after which a reckoning's value is just that of another one; raise WorkFault for too many."""
        self.handed_on += 1
        if self.handed_on > MOST_HANDED_ON:
            raise WorkFault("a reckoning comes to no end")
        self.step()

    def value(self, term, row):
        """Return the value of a term whose variables have values, the nearest binder's first."""
        unfoldings = self.unfoldings
        try:
            return self.settled(self.reckoned(term, row))
        except KernelError:
            self.unfoldings = unfoldings
            raise

    def enter(self, closure, value):
        """Return the value of a closure's term with a value for its nearest variable."""
        term, row = closure
        return self.value(term, (value,) + row)

    def back(self, value, depth):
        """Return the normal term of a value under so many binders."""
        nesting = self.nesting
        unfoldings = self.unfoldings
        try:
            return self.normal_of(value, depth)
        except KernelError:
            self.unfoldings = unfoldings
            raise
        finally:
            self.nesting = nesting

    def normal_of(self, value, depth):
        """Return the normal term of a value; how deep it stands is counted anew by the caller."""
        rows = []
        # Values that are still to be looked at: how many binders are around, within how many others, and whether what
        # is told is a closure. In this list they may stand within each other as deep as the bound lets them.
        waiting = [(value, depth, self.nesting, False)]
        while waiting:
            one, depth, nesting, is_closure = waiting.pop()
            self.nesting = nesting
            if is_closure:
                one = self.entered(one, free(depth - 1))
            self.nesting = nesting + 1
            self.step()
            one = self.asked(one)
            if one[0] == "stuck":
                rows.extend([("app",)] * len(one[2]))
                rows.append(("var", depth - 1 - one[1][1]) if one[1][0] == "free" else one[1])
                waiting.extend([(argument, depth, nesting + 1, False) for argument in one[2][::-1]])
            else:
                rows.append(one[:2])
                if one[0] != "sort":
                    waiting.append((one[3], depth + 1, nesting + 1, True))
                    waiting.append((one[2], depth, nesting + 1, False))
        return rebuilt_all(rows)

    def normal(self, term, depth=0):
        """Return the normal term of a term under so many binders."""
        unfoldings = self.unfoldings
        try:
            return self.back(self.reckoned(term, free_row(depth)), depth)
        except KernelError:
            self.unfoldings = unfoldings
            raise

    def settled(self, value):
        """Return a value in which nothing waits to be asked for: no argument, no kind, and no value of a closure."""
        nesting = self.nesting
        self.nesting = nesting + 1
        try:
            self.step()
            if value[0] == "sort":
                return value
            if value[0] == "stuck":
                return ("stuck", value[1], self.settled_row(value[2]))
            term, row = value[3]
            return (value[0], value[1], self.settled_row((value[2],))[0], (term, self.settled_row(row)))
        finally:
            self.nesting = nesting

    def settled_row(self, row):
        """Return values in which nothing waits, of what may be delayed."""
        found = []
        # The last ones first: they are what those before them hang on, and so do not stand within these.
        for one in reversed(row):
            if isinstance(one, Delayed):
                if one.whole is None:
                    one.whole = self.settled(self.asked(one))
                one = one.whole
            found.append(one)
        return tuple(reversed(found))

    def asked(self, one):
        """Return the value of what may be delayed."""
        if not isinstance(one, Delayed):
            return one
        if one.found is None:
            one.found = self.reckoned(one.term, one.around)
        return one.found

    def entered(self, closure, value):
        """Return the value of a closure's term, in which much may wait to be asked for."""
        term, row = closure
        return self.reckoned(term, (value,) + row)

    def reckoned(self, term, row):
        """Return the value of a term, in which much may wait to be asked for."""
        nesting = self.nesting
        handed_on = self.handed_on
        try:
            return self.found_within(Delayed(term, row))
        finally:
            self.nesting = nesting
            self.handed_on = handed_on

    def found_within(self, one):
        """Return the value of what is delayed; how deep it stands is counted anew by the caller."""
        # Reckonings that ask for the value of another one wait here: what they are for, what their values are applied
        # to, the recursor that asks for its last argument, if one does, and how often they were handed on.
        frames = []
        waiting = []
        asking = None
        while True:
            if isinstance(one, Delayed) and one.found is None:
                frames.append((one, waiting, asking, self.handed_on))
                waiting = []
                asking = None
                one = self.begun(one, waiting)
                continue
            value = one.found if isinstance(one, Delayed) else one
            if asking is not None:
                one = self.case_of(asking, value, waiting)
                value = asking
                asking = None
                if one is not None:
                    continue
            elif self.is_recursion(value):
                asking = value
                one = value[2][-1]
                continue
            if waiting:
                one = self.applied(value, waiting)
                continue
            one, waiting, asking, self.handed_on = frames.pop()
            one.found = value
            self.nesting -= 1
            if frames == []:
                return value

    def begun(self, one, waiting):
        """Begin the reckoning of what is delayed: return what stands at its head, as head_of does."""
        self.nesting += 1
        self.handed_on = 0
        self.step()
        return self.head_of(one.term, one.around, waiting)

    def head_of(self, term, row, waiting):
        """Return what stands at the head of a term; what it is applied to waits, the first argument last."""
        while True:
            if term[0] == "app":
                waiting.append(delayed(term[2], row))
                term = term[1]
            elif term[0] == "let":
                row = (delayed(term[3], row),) + row
                term = term[4]
            elif term[0] == "lam" and waiting:
                self.hand_on()
                row = (waiting.pop(),) + row
                term = term[3]
            elif term[0] == "const":
                body = self.unfolded(term[1])
                if body is None:
                    return ("stuck", term, ())
                term, row = body, ()
            else:
                return plain_value(term, row)

    def unfolded(self, name):
        """Return the value of a definition, None for another name."""
        body = self.signature.value_of(name)
        if body is not None:
            self.hand_on()
            self.unfoldings += 1
        return body

    def applied(self, value, waiting):
        """Return a value applied to the first of what waits, or to as much as it takes before it can be reckoned."""
        if value[0] == "lam":
            self.hand_on()
            term, row = value[3]
            return self.head_of(term, (waiting.pop(),) + row, waiting)
        if value[0] != "stuck":
            raise KindFault("what is no function is applied")
        many = len(waiting)
        if value[1][0] == "rec" and value[1][1] in self.signature.data:
            room = needed_by(self.signature.data[value[1][1]]) - len(value[2])
            many = min(many, room) if room > 0 else many
        given = waiting[-many:]
        del waiting[-many:]
        return ("stuck", value[1], value[2] + tuple(given[::-1]))

    def is_recursion(self, value):
        """Return True for a recursor with just as many arguments as it takes."""
        if value[0] != "stuck" or value[1][0] != "rec" or value[1][1] not in self.signature.data:
            return False
        return len(value[2]) == needed_by(self.signature.data[value[1][1]])

    def case_of(self, value, made, waiting):
        """Return the case of a recursor for what a constructor made, None for anything else.

        What the case is applied to waits: the fields, and then the recursor's values for those that are recursive.
        """
        _, head, arguments = value
        owner = None
        if made[0] == "stuck" and made[1][0] == "const":
            owner = self.signature.made_by(made[1][1])
        if owner is None or owner[0].name != head[1]:
            return None
        data, number = owner
        many = len(data.params)
        fields = made[2][many:]
        if len(fields) != len(data.constructors[number][1]):
            return None
        self.hand_on()
        given = list(fields)
        for term, row in hypotheses_of(data, head[2], number, arguments, fields):
            given.append(Delayed(term, row))
        waiting.extend(list(reversed(given)))
        return arguments[many + 1 + number]


def plain_value(term, row):
    """Return the value of a term that is reckoned already, but for a variable's, which may be delayed."""
    if term[0] == "var":
        return value_in(row, term[1])
    if term[0] in ("pi", "lam"):
        return (term[0], term[1], delayed(term[2], row), (term[3], row))
    return term if term[0] == "sort" else ("stuck", term, ())
