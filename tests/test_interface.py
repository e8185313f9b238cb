"""The whole interface: every name that the document lists stands in its file, with its arguments and its fields."""

import ast
import importlib
import inspect
import pathlib
import unittest

from kernelstack.signature import Signature
from test_equality import SIGNATURE

# Files in brackets; a class with the one above it; a function or a method with its arguments; a class's fields.
INTERFACE = """
[errors]
class KernelError(ValueError)
class TextError(KernelError)
class TermError(KernelError)
class NameFault(KernelError)
class KindFault(KernelError)
class DataFault(KernelError)
class HoleFault(KernelError)
class StepFault(KernelError)
class FileFault(KernelError)
class WorkFault(KernelError)
[terms]
parts(term)
with_parts(term, fresh)
check_term(term)
lifted(term, many, start=0)
put_in(term, value, start=0)
put_in_all(term, values)
lowest_free(term, depth=0)
uses_var(term, number)
uses_name(term, name)
names_in(term)
same(one, other)
size(term)
apply(function, arguments)
spine(term)
binders(word, rows, body)
arrow(kind, body)
split_pis(term, many)
pi_level(one, other)
[data]
class Data
Data(name, params, indices, level, constructors)
Data.shown()
Data: name, params, indices, level, constructors
[signature]
WORDS =
is_good_name(name)
class Signature
Signature()
Signature.copied()
Signature.kind_of(name)
Signature.value_of(name)
Signature.add_axiom(name, kind)
Signature.shown()
Signature: kinds, bodies, data, owners, order
[values]
class Reckoner
Reckoner(signature, most=MOST_STEPS)
Reckoner.step()
Reckoner.value(term, row)
Reckoner.enter(closure, value)
Reckoner.back(value, depth)
Reckoner.normal(term, depth=0)
Reckoner: signature, steps
[equal]
class Comparer(Reckoner)
Comparer(signature, most)
Comparer.equal_terms(one, other, depth=0)
Comparer: unfoldings
[checker]
class Checker(Comparer)
Checker(signature, most=MOST_WORK)
Checker.row(context)
Checker.bind(context, name, kind)
Checker.infer(term, context=())
Checker.kind_term(term)
Checker.add(declaration)
check_all(declarations, most=MOST_WORK)
is_proof(signature, term, statement)
[lexer]
SIGNS =
class Token
Token(kind, text, place)
Token.shown()
Token: kind, text, place
skip_blanks(text, place)
token_at(text, place)
tokenize(text)
[parser]
class Reader
Reader(text)
Reader.here()
Reader.proof_step()
Reader: place
depth_of(raw)
parse_term(text)
parse_file(text)
[printer]
fresh(name, taken)
term_text(term, names=())
declaration_text(declaration)
file_text(declarations)
[elaborate]
class Elaborator
Elaborator(signature, implicits)
Elaborator.new_hole(context, kind)
Elaborator.full(term)
Elaborator.infer(raw, context)
Elaborator.number(number)
Elaborator.kind_of(raw, context)
Elaborator.unify(one, other, context)
Elaborator.are_equal(one, other, context)
Elaborator.finished(term)
Elaborator: signature, implicits, solved, kinds, contexts, steps
has_holes(term)
deepest(term, depth=0)
lifted_meta(term, many, start=0)
put_in_meta(term, value, start=0)
placed(term, values, start=0)
renamed(term, places, depth, hole)
same_meta(one, other)
count_implicit(rows)
[logic]
connectives(signature)
formula(term, known=CONNECTIVES)
statement(one)
alike(one, other)
closed(term, name, depth)
function(name, kind, body)
class Search
Search()
Search.prove(hyps, goal)
made(label, one, values)
rec(name, params, goal, cases, kind, proof)
decide(kind, hyps=(), known=CONNECTIVES)
[proof]
class Proof
Proof(signature, implicits, context, kind)
Proof.first()
Proof.step(step)
Proof.finish()
Proof: signature, elaborator, goals, many, term
holes_in(term)
abstracted(kind, term, depth)
plain(kind)
[world]
class World
World()
World.copied()
World.add_text(text)
World.term_of(text)
World.kind_text(text)
World.value_text(text)
World: signature, implicits, theorems
closed_context(rows)
world_of(text)
[codec]
number_bytes(number)
name_bytes(name)
class Writer
Writer()
Writer.node(term)
Writer: data, rows
pack_declarations(declarations)
class Unpacker
Unpacker(data)
Unpacker.number()
Unpacker.read_name()
Unpacker.read_node()
Unpacker: data, place
unpack_declarations(data)
check_declaration(row)
digest(data)
[library]
class ObjectFile
ObjectFile(name, imports, declarations, implicits, theorems)
ObjectFile.packed()
ObjectFile.shown()
ObjectFile: name, imports, declarations, implicits, theorems
read_object(data)
split_imports(text)
leading(kind)
class Library
Library()
Library.needed(name)
Library.compile_file(name)
Library.load(name)
Library: texts, objects, checks
[depends]
needs(signature, name)
all_needs(signature, name)
axioms_of(signature, name)
unused(signature, names)
cut_down(signature, names)
[session]
class Session
Session()
Session.newest()
Session.enter(line)
Session.step(text)
Session.finish()
fresh_names(names)
[equality]
need_equality(signature)
equal_statement(kind, one, other)
sides_of(statement)
by_itself(kind, term)
carried_on(kind, one, other, proof, body, value)
turned(kind, one, other, proof)
joined_proofs(kind, terms, proofs)
in_argument(kinds, function, one, other, proof)
in_function(kinds, functions, proof, argument)
plain_function(kind)
[closure]
class Link
Link(other, proof, is_turned)
Link: other
class Closure
Closure(signature)
Closure.add(term)
Closure.assume(proof)
Closure.are_equal(one, other)
Closure.explain(one, other)
Closure.equation(one, other)
Closure: signature, kinds, roots
[rewriting]
class Rule
Rule(name, many, kind, left, right)
Rule: name, many, kind, left, right
read_rule(signature, name)
matched(pattern, term, values)
class Rewriter
Rewriter(signature, names, most=MOST_REWRITES)
Rewriter.step_at(term)
Rewriter.rewritten(term)
Rewriter: signature, steps
[running]
class Later
Later(term, row)
Later: term, around, known
class Made
Made(word, name, arguments, many)
Made: name, many
class Closed
Closed(body, row)
Closed: around
class Runner
Runner(signature, most=MOST_RUNS)
Runner.count()
Runner.shown(value)
Runner.run(term)
Runner: signature, steps
[deriving]
plain_data(signature, name)
fields_of(data, number)
case_rows(data, number, goal)
by_cases(data, goal, level, bodies)
size_of(signature, name)
test_of(signature, name, number)
made_of(data, number, start)
two_rows(data, one, other)
differs(signature, name, one, other)
keeps(signature, name, number, place)
derived(signature, name)
"""
PACKAGE = pathlib.Path(__file__).resolve().parent.parent / "kernelstack"
# What objects are made of, to look at their fields.
ARGUMENTS = {
    "Data": ("d", (), (), 1, ()),
    "Reckoner": (Signature(),),
    "Comparer": (Signature(), 100),
    "Checker": (Signature(),),
    "Token": ("name", "x", 0),
    "Reader": ("x",),
    "Elaborator": (Signature(), {}),
    "Proof": (Signature(), {}, (), ("sort", 0)),
    "Unpacker": ((1, 2),),
    "ObjectFile": ("f", (), (), (), ()),
    "Link": (("sort", 0), None, False),
    "Closure": (SIGNATURE,),
    "Rule": ("r", 0, ("sort", 0), ("sort", 0), ("sort", 0)),
    "Rewriter": (SIGNATURE, ()),
    "Later": (("sort", 0), ()),
    "Made": ("made", "O", (), 0),
    "Closed": (("sort", 0), ()),
    "Runner": (Signature(),),
}


def rows_of_files():
    """Return (file, line) rows of the interface."""
    found, file = [], ""
    for line in INTERFACE.split("\n"):
        if line.startswith("["):
            file = line.strip("[]")
        elif line != "":
            found.append((file, line))
    return found


def defined_in(file):
    """Return the names that are defined, or assigned, at a file's module level, and those of its classes' methods."""
    found = {}
    for node in ast.parse((PACKAGE / f"{file}.py").read_text(encoding="utf-8")).body:
        if isinstance(node, (ast.FunctionDef, ast.ClassDef)):
            found[node.name] = [one.name for one in node.body if isinstance(one, ast.FunctionDef)]
        elif isinstance(node, ast.Assign):
            found[node.targets[0].id] = []
    return found


class TestInterface(unittest.TestCase):
    def told(self, arguments, module):
        """Return told arguments as (name, whether it has a default value, that value)."""
        node = ast.parse(f"def f({arguments}): pass").body[0].args
        missing = len(node.args) - len(node.defaults)
        rows = [(one.arg, False, None) for one in node.args[:missing]]
        for one, value in zip(node.args[missing:], node.defaults):
            rows.append((one.arg, True, eval(ast.unparse(value), dict(vars(module)))))
        return rows

    def found(self, called):
        """Return the arguments of something called, likewise."""
        rows = []
        for name, one in inspect.signature(called).parameters.items():
            if name != "self":
                has_default = one.default is not inspect.Parameter.empty
                rows.append((name, has_default, one.default if has_default else None))
        return rows

    def test_functions_and_methods(self):
        many = 0
        for file, line in rows_of_files():
            if line.startswith("class ") or ": " in line or line.endswith(" ="):
                continue
            with self.subTest(file=file, line=line):
                name, _, arguments = line.partition("(")
                owner, _, method = name.rpartition(".")
                module = importlib.import_module(f"kernelstack.{file}")
                names = defined_in(file)
                if owner:
                    self.assertIn(method, names[owner])
                    called = vars(vars(module)[owner])[method]
                else:
                    self.assertIn(name, names)
                    called = vars(module)[name]
                self.assertEqual(self.found(called), self.told(arguments[:-1], module))
                many += 1
        self.assertGreater(many, 150)

    def test_classes(self):
        for file, line in rows_of_files():
            if line.startswith("class "):
                name, _, base = line[6:].strip(")").partition("(")
                with self.subTest(file=file, name=name):
                    module = importlib.import_module(f"kernelstack.{file}")
                    self.assertIn(name, defined_in(file))
                    bases = [one.__name__ for one in vars(module)[name].__mro__[1:]]
                    self.assertIn(base or "object", bases)

    def test_values(self):
        for file, line in rows_of_files():
            if line.endswith(" ="):
                self.assertIn(line[:-2], defined_in(file))

    def test_fields(self):
        for file, line in rows_of_files():
            if ": " not in line or "(" in line:
                continue
            name, _, fields = line.partition(": ")
            module = importlib.import_module(f"kernelstack.{file}")
            one = vars(module)[name](*ARGUMENTS.get(name, ()))
            for field in fields.split(", "):
                with self.subTest(name=name, field=field):
                    self.assertIn(field, vars(one))

    def test_nothing_in_the_interface_is_imported_there(self):
        for file, line in rows_of_files():
            name = line[6:].partition("(")[0] if line.startswith("class ") else line.partition("(")[0].partition(" ")[0]
            owner = name.partition(".")[0].partition(":")[0]
            self.assertIn(owner, defined_in(file), line)


if __name__ == "__main__":
    unittest.main()
