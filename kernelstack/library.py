"""Library: files of declarations that import each other, kept as texts and as bytes, and checked when loaded."""

from kernelstack.checker import Checker
from kernelstack.codec import Unpacker, digest, name_bytes, number_bytes, pack_declarations, unpack_declarations
from kernelstack.data import Data
from kernelstack.dataform import terms_of
from kernelstack.errors import FileFault, KernelError, NameFault, TextError
from kernelstack.lexer import skip_blanks
from kernelstack.terms import all_pis, names_in
from kernelstack.world import World

MARK = (75, 79, 1)
WORD = "import "
MOST_IMPORTS = 20
MOST_FILES_DEEP = 20


class ObjectFile:
    """A file's name, imports with their digests, declarations, implicit arguments and theorems.

    Imports are (name, digest) rows, and implicit arguments (name, how many) rows.
    """

    def __init__(self, name, imports, declarations, implicits, theorems):
        self.name = name
        self.imports = imports
        self.declarations = declarations
        self.implicits = implicits
        self.theorems = theorems

    def packed(self):
        """Return the file's bytes: a mark, its parts, and the digest of all before."""
        found = [*MARK, *name_bytes(self.name)]
        for rows in (self.imports, self.implicits):
            found.extend(number_bytes(len(rows)))
            for name, number in rows:
                found.extend(name_bytes(name))
                found.extend(number_bytes(number))
        found.extend(number_bytes(len(self.theorems)))
        for name in self.theorems:
            found.extend(name_bytes(name))
        found.extend(list(pack_declarations(self.declarations)))
        return tuple(found) + digest_bytes(found)

    def shown(self):
        """Return (name, imports, declarations, implicit arguments, theorems)."""
        return (self.name, self.imports, self.declarations, self.implicits, self.theorems)


def digest_bytes(data):
    """Return the four bytes of a digest, the highest first."""
    number = digest(data)
    return (number >> 24, (number >> 16) & 255, (number >> 8) & 255, number & 255)


def read_object(data):
    """Return the file of bytes; raise FileFault for bytes that are none, damaged, or not the ones packed gives."""
    data = tuple(data)
    if len(data) < 8 or data[:3] != MARK:
        raise FileFault("bytes are no file")
    if data[-4:] != digest_bytes(data[:-4]):
        raise FileFault("a file is damaged")
    unpacker = Unpacker(data[3:-4])
    name = unpacker.read_name()
    imports = read_numbers(unpacker)
    implicits = read_numbers(unpacker)
    theorems = []
    for _ in range(unpacker.number()):
        theorems.append(unpacker.read_name())
    declarations = unpack_declarations(unpacker.data[unpacker.place:])
    found = ObjectFile(name, imports, declarations, implicits, tuple(theorems))
    if found.packed() != data:
        raise FileFault("bytes are not the plain ones")
    return found


def read_numbers(unpacker):
    """Move past (name, number) rows and return them."""
    found = []
    for _ in range(unpacker.number()):
        name = unpacker.read_name()
        found.append((name, unpacker.number()))
    return tuple(found)


def split_imports(text):
    """Return (names of imports, the rest) of a file's text: lines "import name;" stand first; raise TextError."""
    names = []
    place = skip_blanks(text, 0)
    rest = text
    while text[place:place + len(WORD)] == WORD:
        line, sign, rest = text[place + len(WORD):].partition(";")
        name = line.strip(" ")
        if sign == "" or "\n" in line or name == "" or name in names:
            raise TextError("an import does not end, or is told twice")
        names.append(name)
        text = rest
        place = skip_blanks(text, 0)
    if len(names) > MOST_IMPORTS:
        raise TextError("a file has too many imports")
    return (tuple(names), rest)


def leading(kind):
    """Return how many products stand at the beginning of a kind."""
    return len(all_pis(kind)[0])


def declared_by(declaration):
    """Return the names that a declaration declares."""
    if declaration[0] != "data":
        return [declaration[1]]
    return [declaration[1]] + [row[0] for row in declaration[5]]


def terms_in(declaration):
    """Return the terms of a declaration, in order."""
    return terms_of(declaration) if declaration[0] == "data" else list(declaration[2:])


def add_known(world, file):
    """Add a file's declarations, which the kernel has checked, to a world; raise NameFault for a name twice."""
    for declaration in file.declarations:
        if declaration[0] == "axiom":
            world.signature.add_axiom(declaration[1], declaration[2])
        elif declaration[0] == "def":
            world.signature.add_definition(declaration[1], declaration[2], declaration[3])
        else:
            world.signature.add_data(Data(declaration[1], declaration[2], declaration[3], declaration[4],
                                          declaration[5]))
    add_marks(world, file)


def add_checked(world, file):
    """Add a file's declarations to a world, each checked by the kernel; raise what checking raises."""
    checker = Checker(world.signature)
    for declaration in file.declarations:
        checker.add(declaration)
    need_marks(checker, file)
    add_marks(world, file)


def add_marks(world, file):
    """Add a file's implicit arguments and theorems to a world that has its declarations."""
    for declaration in file.declarations:
        for name in declared_by(declaration):
            world.implicits[name] = 0
    for name, many in file.implicits:
        world.implicits[name] = many
    world.theorems.extend(list(file.theorems))


def need_marks(checker, file):
    """Raise FileFault if a file's implicit arguments or theorems do not fit its declarations."""
    own = {}
    definitions = {}
    for declaration in file.declarations:
        for name in declared_by(declaration):
            own[name] = True
        if declaration[0] == "def":
            definitions[declaration[1]] = declaration[2]
    for name, many in file.implicits:
        if name not in own or many > leading(checker.signature.kind_of(name)):
            raise FileFault("implicit arguments do not fit")
        del own[name]
    for name in file.theorems:
        if name not in definitions:
            raise FileFault("a theorem is no definition of its file")
        checker.begin()
        if checker.level_of(definitions[name], ()) != 0:
            raise FileFault("a theorem is no statement")
        del definitions[name]


def need_names(file, known):
    """Raise FileFault if a file's declarations use names that neither it nor its imports declare."""
    names = dict(known)
    for declaration in file.declarations:
        for name in declared_by(declaration):
            names[name] = True
    for declaration in file.declarations:
        for term in terms_in(declaration):
            if any(name not in names for name in names_in(term)):
                raise FileFault("a file uses what it does not import")


class Library:
    """Texts by name, bytes of files by name, what was checked already, and how many files were checked."""

    def __init__(self):
        self.texts = {}
        self.objects = {}
        self.checks = 0
        # Numbers of rows of files that were checked one over the other, by the number of the row without the last one
        # and by the last one's bytes; nothing has the number 0.
        self.rows_checked = {}

    def needed(self, name):
        """Return the names of the files that a file needs, each after its imports, itself last; raise FileFault."""
        imports = {}
        waiting = [name]
        while waiting:
            one = waiting.pop()
            if one not in self.texts:
                raise FileFault(f"there is no file {one}")
            if one not in imports:
                imports[one] = split_imports(self.texts[one])[0]
                waiting.extend(list(imports[one]))
        return in_order(name, imports)

    def compile_file(self, name):
        """Check a file's text and what it imports, keep all as bytes, and return the world."""
        files = {}
        objects = {}
        world = World()
        for one in self.needed(name):
            names, rest = split_imports(self.texts[one])
            world = World()
            for other in self.needed(one)[:-1]:
                put_together(world, files[other])
            files[one] = compiled(world, one, [(other, digest(objects[other])) for other in names], rest)
            objects[one] = files[one].packed()
        for one in objects:
            self.objects[one] = objects[one]
        return world

    def load(self, name):
        """Return the world of a file's bytes and those it imports; what was not checked before is; raise FileFault."""
        files = self.files_for(name)
        world = World()
        fresh = {}
        checks = 0
        place = 0
        for one in in_order(name, {key: [row[0] for row in files[key].imports] for key in files}):
            step = (place, tuple(self.objects[one]))
            if step in self.rows_checked:
                put_together(world, files[one])
                place = self.rows_checked[step]
                continue
            self.check_file(world, one, files)
            checks += 1
            place = len(self.rows_checked) + len(fresh) + 1
            fresh[step] = place
        for step in fresh:
            self.rows_checked[step] = fresh[step]
        self.checks += checks
        return world

    def files_for(self, name):
        """Return the files that a file needs by their names, read from their bytes, if names and digests fit."""
        files = {}
        waiting = [name]
        while waiting:
            one = waiting.pop()
            if one not in self.objects:
                raise FileFault(f"there is no file {one}")
            if one not in files:
                files[one] = read_object(self.objects[one])
                need_imports(files[one], one)
                waiting.extend([row[0] for row in files[one].imports])
        for one in files:
            for other, number in files[one].imports:
                if digest(self.objects[other]) != number:
                    raise FileFault(f"{one} was made over other bytes of {other}")
        return files

    def check_file(self, world, name, files):
        """Add a file to a world that has what it imports, each declaration checked by the kernel; raise FileFault."""
        known = {}
        imports = {key: [row[0] for row in files[key].imports] for key in files}
        for one in in_order(name, imports)[:-1]:
            for declaration in files[one].declarations:
                for label in declared_by(declaration):
                    known[label] = True
        need_names(files[name], known)
        try:
            add_checked(world, files[name])
        except KernelError as fault:
            raise FileFault(f"{name} is refused: {str(fault)}")


def need_imports(file, name):
    """Raise FileFault if a file has another name than it should, too many imports, or one twice."""
    names = [row[0] for row in file.imports]
    if file.name != name or len(names) > MOST_IMPORTS or len(set(names)) != len(names):
        raise FileFault("a file's name or its imports do not fit")


def in_order(name, imports):
    """Return the names of the files that a file needs, each after its imports; raise FileFault for a ring, or too deep.

    imports is a table of the files' names to the names of their imports.
    """
    found = []
    heights = {}
    path = [name]
    while path:
        one = path[-1]
        missing = [other for other in imports[one] if other not in heights]
        if missing:
            if missing[0] in path or len(path) >= MOST_FILES_DEEP:
                raise FileFault("files import each other in a ring, or stand too deep")
            path.append(missing[0])
            continue
        heights[one] = 1 + max([heights[other] for other in imports[one]], default=0)
        if heights[one] > MOST_FILES_DEEP:
            raise FileFault("files stand too deep")
        found.append(path.pop())
    return found


def put_together(world, file):
    """Add a file that was checked to a world; raise FileFault if another one has declared a name of its."""
    try:
        add_known(world, file)
    except NameFault as fault:
        raise FileFault(f"{file.name} does not fit beside others: {str(fault)}")


def compiled(world, name, imports, text):
    """Return the file of a text whose declarations are added to a world of what it imports."""
    many = len(world.signature.order)
    theorems = len(world.theorems)
    before = dict(world.implicits)
    world.add_text(text)
    implicits = tuple([(label, world.implicits[label]) for label in world.implicits if label not in before])
    declarations = tuple(world.signature.order[many:])
    return ObjectFile(name, tuple(imports), declarations, implicits, tuple(world.theorems[theorems:]))
