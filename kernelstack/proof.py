"""Proofs by steps: a statement as a hole, and steps that fill holes in until none is left."""

from kernelstack.carrying import carried_out
from kernelstack.checker import Checker
from kernelstack.data import recursive_fields, recursor_kind
from kernelstack.elaborate import MOST_NODES_FULL, Elaborator, has_holes
from kernelstack.errors import HoleFault, KernelError, KindFault, StepFault, TermError
from kernelstack.goals import exchanged, goal_over
from kernelstack.holes import holes_of, kind_in
from kernelstack.logic import connectives, decide
from kernelstack.parser import need_term
from kernelstack.terms import apply, binders, check_term, lifted, put_in, rebuilt_all, spine, split_pis
from kernelstack.values import delayed, free

MOST_STEPS_HERE = 100
MOST_SEARCHED = 6
MOST_TRIES = 400


class Choice:
    """A hole for which a variable is chosen, with its context and kind, all that is wanted, and what was known before.

    The place is that of the variable that was chosen last, -1 before the first one is.
    """

    def __init__(self, wanted, number, context, kind):
        self.wanted = wanted
        self.hole = number
        self.context = context
        self.goal = kind
        self.place = -1
        self.before = None


class Proof:
    """An elaborator, the term so far, and the numbers of the holes that are goals, the first one being worked on."""

    def __init__(self, signature, implicits, context, kind):
        self.signature = signature
        self.elaborator = Elaborator(signature, implicits)
        self.whole_proof = self.elaborator.new_hole(context, kind)
        self.term = self.whole_proof
        self.goals = [self.term[1]]
        self.many = 0
        self.tries = 0

    def first(self):
        """Return (number, context, kind) of the first goal; raise StepFault if none is left."""
        if self.goals == []:
            raise StepFault("no goal is left")
        number = self.goals[0]
        return (number, self.context_of(number), self.elaborator.filled_in(self.elaborator.kinds[number]))

    def context_of(self, number):
        """Return the context of a hole, with solved holes filled in."""
        rows = []
        for name, kind, value in self.elaborator.contexts[number]:
            known = None if value is None else self.elaborator.filled_in(value)
            rows.append((name, self.elaborator.filled_in(kind), known))
        return tuple(rows)

    def step(self, step):
        """Carry out a step; raise StepFault, changing nothing, if it does not fit the first goal."""
        elaborator = self.elaborator
        before = self.state()
        steps = elaborator.steps
        # Each step of a proof may take as many steps of elaboration as a declaration.
        elaborator.steps = 0
        self.many += 1
        try:
            if self.many > MOST_STEPS_HERE:
                raise StepFault("a proof has too many steps")
            self.carry_out(step)
            elaborator.check_late()
            self.goals = [number for number in self.goals if number not in elaborator.solved]
            self.term = elaborator.full(self.whole_proof)
            if self.goals != []:
                # A goal that is too large to be looked at would bear no step.
                self.first()
        except KernelError as fault:
            self.go_back(before)
            elaborator.steps = steps
            raise StepFault(str(fault))

    def state(self):
        """Return all that a step may change, to come back to."""
        return (self.elaborator.kept(), self.goals, self.term, self.many)

    def go_back(self, state):
        """Be again just what the proof was then."""
        self.elaborator.come_back(state[0])
        self.goals = state[1]
        self.term = state[2]
        self.many = state[3]

    def carry_out(self, step):
        """Carry out a step; raise a fault if it does not fit, with some of it done."""
        word = step[0]
        if word == "intro":
            self.take_in(step[1])
        elif word == "exact":
            self.exact(step[1])
        elif word == "apply":
            self.apply_term(step[1])
        elif word in ("cases", "induction"):
            self.by_cases(step[1], "h" if word == "induction" else "_")
        elif word == "show":
            self.show(step[1])
        elif word == "have":
            self.have(step[1], step[2])
        elif word == "assumption":
            self.assume()
        elif word == "search":
            self.search(step[1])
        elif word in ("reckon", "unfold"):
            self.reckon()
        elif word == "decide":
            self.follow()
        else:
            raise StepFault(f"{word} is no step")

    def fill(self, number, term, holes):
        """Fill a goal in with a term, some of whose holes are new goals, which come first."""
        self.elaborator.put(number, term)
        rest = [goal for goal in self.goals if goal != number]
        self.goals = [hole for hole in holes if hole not in rest] + rest

    def fill_all(self, number, term):
        """Fill a goal in with a term, all of whose holes are new goals."""
        full = self.elaborator.need_size(self.elaborator.filled_in(term))
        if number in holes_of(full):
            raise StepFault("a term leads to the goal itself")
        self.fill(number, term, holes_of(full))

    def product(self, kind, context):
        """Return a kind as a product; raise StepFault if it is none."""
        if kind[0] != "pi":
            kind = self.elaborator.head(kind, context)
        if kind[0] != "pi":
            raise StepFault("the goal is no product")
        return kind

    def take_in(self, names):
        """Take the variables of the goal's products in by names."""
        for name in names:
            number, context, kind = self.first()
            kind = self.product(kind, context)
            hole = self.elaborator.new_hole(((name, kind[2], None),) + context, kind[3])
            self.fill(number, ("lam", name, kind[2], hole), [hole[1]])

    def exact(self, raw):
        """Fill the goal in with a term, whose holes become goals."""
        number, context, kind = self.first()
        need_term(raw)
        self.fill_all(number, self.elaborator.checked(raw, kind, context))

    def apply_term(self, raw):
        """Fill the goal in with a term applied to new goals."""
        number, context, kind = self.first()
        term, found = self.elaborator.infer(raw, context)
        self.fill_all(number, self.applied(term, found, kind, context))

    def applied(self, term, found, kind, context):
        """Return a term applied to as many holes as are needed until its kind is that of the goal."""
        while True:
            kept = self.elaborator.kept()
            try:
                self.elaborator.fit(term, found, kind, context)
                return term
            except (HoleFault, KindFault):
                self.elaborator.come_back(kept)
            found = self.product(self.elaborator.filled_in(found), context)
            hole = self.elaborator.new_hole(context, found[2])
            term = ("app", term, hole)
            found = put_in(found[3], hole)

    def by_cases(self, raw, label):
        """Fill the goal in with a recursor over a term, with a new goal for each constructor."""
        number, context, kind = self.first()
        term, found = self.elaborator.infer(raw, context)
        term = self.elaborator.finished(term)
        head, arguments = spine(self.elaborator.head(self.elaborator.filled_in(found), context))
        if head[0] != "const" or head[1] not in self.signature.data:
            raise StepFault("a term is not made by constructors")
        data = self.signature.data[head[1]]
        level = self.elaborator.level_found(kind, context)
        if self.elaborator.is_unsure(kind, context):
            self.elaborator.look_again(context, kind, ("sort", level), False)
        if data.level == 0 and level > 0:
            raise StepFault("a statement gives statements alone")
        many = len(data.params)
        goal = goal_over(data, level, arguments, term, kind)
        self.need_kind(goal, context)
        found = recursor_kind(data, level)
        for argument in [*arguments[:many], goal]:
            found = put_in(found[3], argument)
        cases = []
        for place in range(len(data.constructors)):
            cases.append(self.case(data, place, found[2], context, label))
            found = put_in(found[3], cases[-1])
        made = apply(("rec", data.name, level), [*arguments[:many], goal, *cases, *arguments[many:], term])
        self.fill(number, made, holes_in(apply(goal, cases)))

    def case(self, data, place, kind, context, label):
        """Return the case of a constructor, which takes its fields and hypotheses in; its body is a new goal."""
        fields = len(data.constructors[place][1])
        rows, end = split_pis(kind, fields + len(recursive_fields(data, place)))
        named = []
        for at, (name, own) in enumerate(rows):
            named.append((name, own) if at < fields else (label, plain(own)))
            context = ((named[-1][0], named[-1][1], None),) + context
        return binders("lam", named, self.elaborator.new_hole(context, plain(end)))

    def need_kind(self, term, context):
        """Raise KindFault if a term has no kind in a context; those with holes, or too large, are left for later."""
        rows = ()
        row = ()
        for name, kind, value in reversed(context):
            if has_holes(kind) or (value is not None and has_holes(value)):
                return
            known = free(len(row)) if value is None else delayed(value, row)
            rows = ((name, delayed(kind, row), known),) + rows
            row = (known,) + row
        if has_holes(term):
            return
        try:
            check_term(term)
        except TermError:
            return
        Checker(self.signature).kind_found(term, rows)

    def show(self, raw):
        """Exchange the goal for an equal one."""
        number, context, kind = self.first()
        term, _ = self.elaborator.kind_of(raw, context)
        self.elaborator.unified(term, kind, context)
        self.exchange(number, context, self.elaborator.finished(term))

    def exchange(self, number, context, kind):
        """Exchange a goal for one of another kind that is equal."""
        hole = self.elaborator.new_hole(context, kind)
        self.fill(number, hole, [hole[1]])

    def have(self, name, raw):
        """Make a statement a goal, and then take it in by a name."""
        number, context, kind = self.first()
        term, _ = self.elaborator.kind_of(raw, context)
        term = self.elaborator.finished(term)
        proof = self.elaborator.new_hole(context, term)
        rest = self.elaborator.new_hole(((name, term, None),) + context, lifted(kind, 1))
        self.fill(number, ("app", ("lam", name, term, rest), proof), [proof[1], rest[1]])

    def assume(self):
        """Fill the goal in with the nearest variable that fits."""
        number, context, kind = self.first()
        for place in range(len(context)):
            kept = self.elaborator.kept()
            try:
                self.elaborator.unified(kind_in(context, place), kind, context)
                self.fill(number, ("var", place), [])
                return
            except (HoleFault, KindFault):
                self.elaborator.come_back(kept)
        raise StepFault("no variable fits the goal")

    def search(self, deep):
        """Fill the goal in with variables and their applications, so deep."""
        number, _, _ = self.first()
        self.tries = 0
        if not self.found_all([(number, min(deep, MOST_SEARCHED))]):
            raise StepFault("the search finds nothing")
        self.goals = self.goals[1:]

    def found_all(self, wanted):
        """Return True if all wanted holes, each with how deep its term may be, were filled in."""
        # What was chosen for holes so far, the last choice being the one that is tried.
        choices = []
        while True:
            wanted = [row for row in wanted if row[0] not in self.elaborator.solved]
            if wanted == []:
                return True
            try:
                number, context, kind = self.under_products(wanted[0][0])
                if wanted[0][1] > 0:
                    choices.append(Choice(wanted, number, context, kind))
            except (HoleFault, KindFault, StepFault):
                if choices == []:
                    raise
            wanted = self.next_wanted(choices)
            if wanted is None:
                return False

    def next_wanted(self, choices):
        """Choose anew, and return what is wanted then, None if there is nothing left to choose."""
        while choices != []:
            choice = choices[-1]
            if choice.before is not None:
                self.elaborator.come_back(choice.before)
            if choice.place + 1 >= len(choice.context):
                choices.pop()
                continue
            self.tries += 1
            if self.tries > MOST_TRIES:
                return None
            choice.place += 1
            choice.before = self.elaborator.kept()
            try:
                return self.chosen(choice)
            except (HoleFault, KindFault, StepFault):
                continue
        return None

    def chosen(self, choice):
        """Fill a hole in with the variable that is chosen for it, and return what is wanted then."""
        kind = kind_in(choice.context, choice.place)
        term = self.applied(("var", choice.place), kind, choice.goal, choice.context)
        term = self.elaborator.filled_in(term)
        inner = [hole for hole in holes_of(term) if hole not in choice.before[1]]
        self.elaborator.put(choice.hole, term)
        return [(hole, choice.wanted[0][1] - 1) for hole in inner] + choice.wanted[1:]

    def under_products(self, number):
        """Return (number, context, kind) of the hole that is left when a hole's products are taken in."""
        while True:
            context = self.context_of(number)
            kind = self.elaborator.head(self.elaborator.filled_in(self.elaborator.kinds[number]), context)
            if kind[0] != "pi":
                return (number, context, kind)
            hole = self.elaborator.new_hole(((kind[1], kind[2], None),) + context, kind[3])
            self.elaborator.put(number, ("lam", kind[1], kind[2], hole))
            number = hole[1]

    def reckon(self):
        """Exchange the goal for its normal kind."""
        number, context, kind = self.first()
        checker = Checker(self.signature)
        row = self.elaborator.values_of(context)
        value = checker.reckoned(self.elaborator.finished(kind), row)
        self.exchange(number, context, checker.back(value, len(context)))

    def follow(self):
        """Fill the goal in with a proof by the connectives alone."""
        number, context, kind = self.first()
        if not self.is_statement(kind, context):
            raise StepFault("the goal is no statement")
        hyps = []
        for place, row in enumerate(context):
            if not has_holes(row[1]) and self.is_statement(row[1], context[place + 1:]):
                hyps.append((plain(kind_in(context, place)), ("var", place)))
        known = connectives(self.signature)
        found = decide(plain(self.elaborator.finished(kind)), hyps, known)
        if found is None:
            raise StepFault("the goal does not follow")
        self.fill(number, found, [])
        self.elaborator.put_whole(number, found)

    def is_statement(self, kind, context):
        """Return True if a kind is of level 0."""
        return self.elaborator.level_found(kind, context) == 0

    def finish(self):
        """Return the proof's term; raise StepFault if goals are left."""
        if [number for number in self.goals if number not in self.elaborator.solved] != []:
            raise StepFault("goals are left")
        # What is great and without holes is not gone through for them.
        rows = self.elaborator.rows_filled_in(self.whole_proof, MOST_NODES_FULL)
        if any(row[0] == "meta" for row in rows):
            raise StepFault("a hole is left")
        return rebuilt_all(rows)


def holes_in(term):
    """Return the numbers of the holes in a term, each once, in order."""
    return holes_of(term)


def abstracted(kind, term, depth):
    """Return a kind with a fresh nearest variable in the places of a term that stands outside."""
    return exchanged(kind, [(term, 0)], depth)


def plain(kind):
    """Return a kind in which functions applied to arguments are carried out."""
    return carried_out(kind)
