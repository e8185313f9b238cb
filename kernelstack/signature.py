"""Signatures: what is declared so far: axioms, definitions and data, in order."""

from kernelstack.data import constructor_kind, data_kind
from kernelstack.errors import NameFault

WORDS = ("Prop", "Type", "fun", "forall", "let", "in", "axiom", "def", "theorem", "data", "end", "rec", "by", "check",
         "eval")

FIRST_SIGNS = "abcdefghijklmnopqrstuvwxyzABCDEFGHIJKLMNOPQRSTUVWXYZ_"
LATER_SIGNS = "abcdefghijklmnopqrstuvwxyzABCDEFGHIJKLMNOPQRSTUVWXYZ_0123456789'."
MOST_NAME = 40


def is_good_name(name):
    """Return True if a text may be declared: a letter, then letters, digits, quotes and dots, and no word."""
    if not isinstance(name, str) or name == "" or len(name) > MOST_NAME or name in WORDS:
        return False
    return name[0] in FIRST_SIGNS and all(sign in LATER_SIGNS for sign in name)


class Signature:
    """Kinds by name, values of definitions, data by name, data's names by their constructors, and the order."""

    def __init__(self):
        self.kinds = {}
        self.bodies = {}
        self.data = {}
        self.owners = {}
        self.order = []

    def copied(self):
        """Return a signature of the same declarations."""
        other = Signature()
        other.kinds = dict(self.kinds)
        other.bodies = dict(self.bodies)
        other.data = dict(self.data)
        other.owners = dict(self.owners)
        other.order = list(self.order)
        return other

    def kind_of(self, name):
        """Return the kind of a name; raise NameFault for an unknown one."""
        if name not in self.kinds:
            raise NameFault(f"no {name} is declared")
        return self.kinds[name]

    def value_of(self, name):
        """Return the value of a definition, None for another name."""
        return self.bodies.get(name)

    def data_named(self, name):
        """Return the data of a name; raise NameFault for another name."""
        if name not in self.data:
            raise NameFault(f"no data {name} is declared")
        return self.data[name]

    def made_by(self, name):
        """Return (data, number) of a constructor, None for another name."""
        if name not in self.owners:
            return None
        data = self.data[self.owners[name]]
        names = [row[0] for row in data.constructors]
        return (data, names.index(name))

    def need_fresh(self, name):
        """Raise NameFault for a name that may not be declared, or is declared already."""
        if not is_good_name(name):
            raise NameFault("a name may not be declared")
        if name in self.kinds:
            raise NameFault(f"{name} is declared already")

    def add_axiom(self, name, kind):
        """Add a name without a value."""
        self.need_fresh(name)
        self.kinds[name] = kind
        self.order.append(("axiom", name, kind))

    def add_definition(self, name, kind, value):
        """Add a name with a value."""
        self.need_fresh(name)
        self.kinds[name] = kind
        self.bodies[name] = value
        self.order.append(("def", name, kind, value))

    def add_data(self, data):
        """Add data, and its constructors."""
        names = [data.name] + [row[0] for row in data.constructors]
        for name in names:
            self.need_fresh(name)
        self.add_name_of(data)
        for number, row in enumerate(data.constructors):
            self.kinds[row[0]] = constructor_kind(data, number)
            self.owners[row[0]] = data.name
        self.data[data.name] = data
        self.order.append(data.shown())

    def add_name_of(self, data):
        """Add the kind of data's own name, by which the kinds of its constructors are checked."""
        self.kinds[data.name] = data_kind(data)

    def shown(self):
        """Return all declarations, in order."""
        return tuple(self.order)
