"""Checker: the kinds of terms, and whether declarations may be added to a signature."""

from kernelstack.data import Data
from kernelstack.dataform import need_form, need_rows, terms_of
from kernelstack.equal import Comparer
from kernelstack.errors import KernelError, KindFault, TermError
from kernelstack.inferring import Inferrer, row_of, with_variable
from kernelstack.signature import Signature
from kernelstack.terms import apply, check_term, variables
from kernelstack.values import delayed

MOST_WORK = 200000
LENGTHS = {"axiom": 3, "def": 4}


class Checker(Comparer):
    """A signature by which terms are checked; a context is (name, kind, value) rows of variables, nearest first.

    Kinds and values of rows are values as values.py tells them; a variable without a value is free.
    """

    def __init__(self, signature, most=MOST_WORK):
        Comparer.__init__(self, signature, most)

    def row(self, context):
        """Return the values of a context's variables, the nearest first."""
        return row_of(context)

    def bind(self, context, name, kind):
        """Return a context with one more variable, which has no value."""
        return with_variable(context, name, kind)

    def infer(self, term, context=()):
        """Return the kind of a term as a value; raise KindFault or NameFault if it has none."""
        unfoldings = self.unfoldings
        try:
            return self.settled(self.asked(self.kind_found(term, context)))
        except KernelError:
            self.unfoldings = unfoldings
            raise

    def kind_term(self, term):
        """Return the kind of a closed term, as a normal term."""
        check_term(term)
        self.begin()
        unfoldings = self.unfoldings
        try:
            return self.back(self.kind_found(term, ()), 0)
        except KernelError:
            self.unfoldings = unfoldings
            raise

    def begin(self):
        """Let what comes have the whole bound of steps."""
        self.bound = self.steps + self.most
        self.vain = 0

    def kind_found(self, term, context):
        """Return the kind of a term as a value, which may wait to be asked for."""
        return Inferrer(self).found_by([("kind", term, context)])[0]

    def level_of(self, term, context):
        """Return the level of a kind; raise KindFault for a term that is none."""
        return Inferrer(self).found_by([("kind", term, context), ("level",)])[0]

    def check(self, term, kind, context):
        """Raise KindFault if a term has not just a kind, up to equality."""
        Inferrer(self).found_by([("check", term, kind, context)])

    def add(self, declaration):
        """Check a declaration and add it to the signature; raise an error, which changes nothing.

        Declarations are ("axiom", name, kind), ("def", name, kind, value) and those of data.
        """
        unfoldings = self.unfoldings
        try:
            self.add_checked(declaration)
        except KernelError:
            self.unfoldings = unfoldings
            raise

    def add_checked(self, declaration):
        """Check a declaration and add it to the signature; what was unfolded stays counted if it is refused."""
        if not isinstance(declaration, tuple) or declaration == () or declaration[0] not in ("axiom", "def", "data"):
            raise TermError("a value is no declaration")
        self.begin()
        if declaration[0] == "data":
            self.add_data(declaration)
            return
        if len(declaration) != LENGTHS[declaration[0]]:
            raise TermError("a declaration has too many parts, or too few")
        self.signature.need_fresh(declaration[1])
        for term in declaration[2:]:
            check_term(term)
        self.level_of(declaration[2], ())
        if declaration[0] == "axiom":
            self.signature.add_axiom(declaration[1], declaration[2])
            return
        self.check(declaration[3], delayed(declaration[2], ()), ())
        self.signature.add_definition(declaration[1], declaration[2], declaration[3])

    def add_data(self, declaration):
        """Check a declaration of data and add it to the signature."""
        need_rows(declaration)
        for term in terms_of(declaration):
            check_term(term)
        data = Data(declaration[1], declaration[2], declaration[3], declaration[4], declaration[5])
        for name in [data.name] + [row[0] for row in data.constructors]:
            self.signature.need_fresh(name)
        need_form(data)
        context = self.bound_rows(data.params, ())
        self.bound_rows(data.indices, context)
        self.check_constructors(data, context)
        self.signature.add_data(data)

    def bound_rows(self, rows, context):
        """Return a context with the variables of rows; raise KindFault if one's kind is none."""
        for name, kind in rows:
            self.level_of(kind, context)
            context = self.bind(context, name, delayed(kind, self.row(context)))
        return context

    def check_constructors(self, data, context):
        """Raise KindFault if a constructor's kind has none, or a field is of a higher level than the data."""
        plain = self.signature
        self.signature = plain.copied()
        self.signature.add_name_of(data)
        try:
            for number in range(len(data.constructors)):
                self.check_constructor(data, number, context)
        finally:
            self.signature = plain

    def check_constructor(self, data, number, context):
        """Raise KindFault if a constructor's kind has none, or a field is of a higher level than the data."""
        _, fields, targets = data.constructors[number]
        for name, kind in fields:
            level = self.level_of(kind, context)
            if data.level > 0 and level > data.level:
                raise KindFault("a field is of a higher level than its data")
            context = self.bind(context, name, delayed(kind, self.row(context)))
        params = variables(len(data.params), len(fields))
        self.level_of(apply(("const", data.name), [*params, *targets]), context)


def check_all(declarations, most=MOST_WORK):
    """Return the signature of declarations, each checked after those before it; raise what checking raises."""
    signature = Signature()
    checker = Checker(signature, most)
    for declaration in declarations:
        checker.add(declaration)
    return signature


def is_proof(signature, term, statement):
    """Return True if a closed term has a statement as its kind, and the statement is of level 0."""
    checker = Checker(signature)
    try:
        check_term(term)
        check_term(statement)
        if checker.level_of(statement, ()) != 0:
            return False
        checker.check(term, delayed(statement, ()), ())
    except KernelError:
        return False
    return True
