"""Codec: declarations as bytes, equal subterms told once."""

from kernelstack.dataform import terms_of
from kernelstack.errors import FileFault, KernelError
from kernelstack.terms import FORMS, MOST_PARTS, check_term, is_larger, size

MOST_NUMBER_KEPT = 34359738368
MOST_BYTES = 5
MOST_NAME = 60
MOST_TOGETHER = 100000
NAME_LETTERS = " abcdefghijklmnopqrstuvwxyzABCDEFGHIJKLMNOPQRSTUVWXYZ_0123456789'."
WORDS_IN_ORDER = ("var", "sort", "const", "rec", "pi", "lam", "app", "let")
DECLARATIONS_IN_ORDER = ("axiom", "def", "data")
# How many parts stand at the end of terms that have some.
PARTS_OF = {"pi": 2, "lam": 2, "app": 2, "let": 3}


def number_bytes(number):
    """Return a number below 2 ** 35 as bytes of seven bits, the lowest first, all but the last raised by 128."""
    if number >= MOST_NUMBER_KEPT:
        raise FileFault("a number is too great")
    found = []
    while number >= 128:
        found.append((number & 127) + 128)
        number = number >> 7
    found.append(number)
    return found


def name_bytes(name):
    """Return a name's bytes: its length and its characters' places; raise FileFault for others, or over 60."""
    if len(name) > MOST_NAME:
        raise FileFault("a name is too long")
    found = number_bytes(len(name))
    for letter in name:
        place = NAME_LETTERS.find(letter)
        if place < 0:
            raise FileFault("a name cannot be kept")
        found.append(place)
    return found


class Writer:
    """Bytes so far, and the numbers of the nodes that were written, by what they are."""

    def __init__(self):
        self.data = []
        self.rows = []
        self.places = {}
        self.together = 0

    def node(self, term):
        """Return the number of a term's node, written if it is new."""
        places = dict(self.places)
        data = len(self.data)
        rows = len(self.rows)
        try:
            return self.written(term)
        except FileFault:
            self.places = places
            del self.data[data:]
            del self.rows[rows:]
            raise

    def written(self, term):
        """Return the number of a term's node; some of its parts may have been written before one is refused."""
        numbers = []
        # Terms whose nodes are to be written, and ("node", term, many) for one of which so many parts are written then.
        waiting = [term]
        while waiting:
            one = waiting.pop()
            if one[0] == "node":
                _, whole, many = one
                row = whole[:-many] + tuple(numbers[-many:])
                del numbers[-many:]
                numbers.append(self.kept_node(row))
                continue
            many = PARTS_OF.get(one[0], 0)
            if many == 0:
                numbers.append(self.kept_node(one))
            else:
                waiting.append(("node", one, many))
                waiting.extend(one[:-many - 1:-1])
        return numbers[0]

    def kept_node(self, row):
        """Return the number of a node, told with its parts' numbers, written if it is new."""
        if row not in self.places:
            self.data.extend(node_bytes(row))
            self.places[row] = len(self.rows)
            self.rows.append(row)
        return self.places[row]

    def root(self, term):
        """Return the number of the node of a term that a declaration leads to."""
        if is_larger(term, MOST_TOGETHER - self.together):
            raise FileFault("terms are too large together")
        self.together += size(term)
        return self.written(term)


def node_bytes(row):
    """Return the bytes of a node: its word, and what stands behind it, parts by their nodes' numbers."""
    found = [WORDS_IN_ORDER.index(row[0])]
    for one, form in zip(row[1:], FORMS[row[0]]):
        found.extend(name_bytes(one) if form == "name" else number_bytes(one))
    return found


def rows_bytes(writer, rows):
    """Return the bytes of (name, kind) rows."""
    found = number_bytes(len(rows))
    for name, kind in rows:
        found.extend(name_bytes(name))
        found.extend(number_bytes(writer.root(kind)))
    return found


def declaration_bytes(writer, declaration):
    """Return the bytes of a declaration, whose nodes are written."""
    found = [DECLARATIONS_IN_ORDER.index(declaration[0])]
    found.extend(name_bytes(declaration[1]))
    if declaration[0] != "data":
        for term in declaration[2:]:
            found.extend(number_bytes(writer.root(term)))
        return found
    _, _, params, indices, level, constructors = declaration
    found.extend(rows_bytes(writer, params))
    found.extend(rows_bytes(writer, indices))
    found.extend(number_bytes(level))
    found.extend(number_bytes(len(constructors)))
    for name, fields, targets in constructors:
        found.extend(name_bytes(name))
        found.extend(rows_bytes(writer, fields))
        found.extend(number_bytes(len(targets)))
        for target in targets:
            found.extend(number_bytes(writer.root(target)))
    return found


def pack_declarations(declarations):
    """Return the bytes of declarations: how many nodes, the nodes, how many declarations, these; raise FileFault."""
    writer = Writer()
    found = number_bytes(len(declarations))
    for declaration in declarations:
        found.extend(declaration_bytes(writer, declaration))
    return tuple([*number_bytes(len(writer.rows)), *writer.data, *found])


class Unpacker:
    """Bytes, a place in them, and the nodes so far with their sizes."""

    def __init__(self, data):
        self.data = tuple(data)
        self.place = 0
        self.nodes = []
        self.sizes = []
        self.places = {}
        self.together = 0

    def byte(self):
        """Move past a byte and return it; raise FileFault behind the last one."""
        if self.place >= len(self.data):
            raise FileFault("bytes end too early")
        self.place += 1
        return self.data[self.place - 1]

    def number(self):
        """Move past a number and return it; raise FileFault for one that is longer than needed, or than five bytes."""
        place = self.place
        try:
            return self.next_number()
        except FileFault:
            self.place = place
            raise

    def next_number(self):
        """Return the number at the place, and move on."""
        found = 0
        for step in range(MOST_BYTES):
            one = self.byte()
            if one == 0 and step > 0:
                raise FileFault("a number is too long")
            found += (one & 127) << (7 * step)
            if one < 128:
                return found
        raise FileFault("a number is too long")

    def read_name(self):
        """Move past a name and return it; raise FileFault."""
        place = self.place
        try:
            return self.next_name()
        except FileFault:
            self.place = place
            raise

    def next_name(self):
        """Return the name at the place, and move on."""
        many = self.number()
        if many > MOST_NAME:
            raise FileFault("a name is too long")
        letters = []
        for _ in range(many):
            place = self.byte()
            if place >= len(NAME_LETTERS):
                raise FileFault("there is no such character")
            letters.append(NAME_LETTERS[place])
        return "".join(letters)

    def read_node(self):
        """Move past a node and keep it; raise FileFault for one whose term is too large, or stands before already."""
        place = self.place
        try:
            self.next_node()
        except FileFault:
            self.place = place
            raise

    def next_node(self):
        """Keep the node at the place, and move on."""
        place = self.byte()
        if place >= len(WORDS_IN_ORDER):
            raise FileFault("there is no such node")
        word = WORDS_IN_ORDER[place]
        row = [word]
        term = [word]
        many = 1
        for form in FORMS[word]:
            one = self.read_name() if form == "name" else self.number()
            row.append(one)
            if form == "part":
                many += self.size_of(one)
                one = self.nodes[one]
            term.append(one)
        if many > MOST_PARTS:
            raise FileFault("a term is too large")
        if tuple(row) in self.places:
            raise FileFault("a node stands twice")
        self.places[tuple(row)] = True
        self.nodes.append(tuple(term))
        self.sizes.append(many)

    def size_of(self, number):
        """Return the size of a node's term; raise FileFault for a number that no node has so far."""
        if number >= len(self.nodes):
            raise FileFault("there is no such node")
        return self.sizes[number]

    def root(self):
        """Move past the number of a node that a declaration leads to, and return its term."""
        number = self.number()
        self.together += self.size_of(number)
        if self.together > MOST_TOGETHER:
            raise FileFault("terms are too large together")
        return self.nodes[number]

    def read_rows(self):
        """Move past (name, kind) rows and return them."""
        found = []
        for _ in range(self.number()):
            name = self.read_name()
            found.append((name, self.root()))
        return tuple(found)

    def read_constructor(self):
        """Move past a constructor and return it."""
        name = self.read_name()
        fields = self.read_rows()
        targets = []
        for _ in range(self.number()):
            targets.append(self.root())
        return (name, fields, tuple(targets))

    def read_declaration(self):
        """Move past a declaration and return it."""
        place = self.byte()
        if place >= len(DECLARATIONS_IN_ORDER):
            raise FileFault("there is no such declaration")
        word = DECLARATIONS_IN_ORDER[place]
        name = self.read_name()
        if word == "axiom":
            return (word, name, self.root())
        if word == "def":
            kind = self.root()
            return (word, name, kind, self.root())
        params = self.read_rows()
        indices = self.read_rows()
        level = self.number()
        constructors = []
        for _ in range(self.number()):
            constructors.append(self.read_constructor())
        return (word, name, params, indices, level, tuple(constructors))


def unpack_declarations(data):
    """Return the declarations of bytes; raise FileFault for bytes that are none, or not the ones that pack gives."""
    unpacker = Unpacker(data)
    for _ in range(unpacker.number()):
        unpacker.read_node()
    rows = []
    for _ in range(unpacker.number()):
        rows.append(unpacker.read_declaration())
    if unpacker.place != len(unpacker.data):
        raise FileFault("bytes go on behind the declarations")
    for row in rows:
        check_declaration(row)
    found = tuple(rows)
    if pack_declarations(found) != tuple(data):
        raise FileFault("bytes are not the plain ones")
    return found


def check_declaration(row):
    """Raise FileFault if a declaration's terms are not well formed."""
    try:
        for term in terms_of(row) if row[0] == "data" else row[2:]:
            check_term(term)
    except KernelError:
        raise FileFault("a term is not well formed")


def digest(data):
    """Return a number from 0 to 2147483646 that tells bytes apart from most others."""
    found = 11
    for one in data:
        found = (257 * found + one + 1) % 2147483647
    return found
