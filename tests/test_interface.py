"""The interface of the document: its names, where they are defined, and their arguments."""

import importlib
import inspect
import unittest

from homefrees import errors
from homefrees.console import Console
from homefrees.logs import logs_of
from homefrees.machine import Machine
from homefrees.reports import report
from homefrees.search import Search, ranks
from homefrees.workbench import Workbench
from support import moves_of

# The parameters of each function, written as in the document.
FUNCTIONS = """
programs: is_operation(value), program_text(program), parse_program(text)
runs: run_text(moves), parse_run(text)
places: places(machine, state), is_good(machine, state), is_bad(machine, state)
loads: load(machine, state, kind, socket), small_pages(machine, state, kind, socket), held(state)
loads: account(machine, moves, kind, socket), costs(machine, moves)
search: ranks(search), check_ranks(search, ranks), replayed(machine, moves, ranks)
logs: words_of(machine, state, move), logs_of(machine, moves), merged(machine, logs)
schedules: schedule(machine, rule), first_bad(machine, moves), shrunk(machine, moves)
keys: is_key(machine, value), state_of(machine, value), check_closed(machine, keys)
analysis: same_runs(machine, first, second), normal_run(machine, moves), run_count(search)
analysis: first_failure(machine, *, limit=2000), least_pages(machine, *, limit=2000)
texts: machine_text(machine), parse_machine(text)
ledgers: ledger(machine, moves), first_wrong(machine, rows)
reports: report(machine, moves), check_report(machine, value), cleanup(machine, moves)
"""

CLASSES = {
    ("machine", "Machine"): (
        "(sockets, classes, threads, *, pages=4, batch=1, spare=0, slots=2, stops=0, fault=None)",
        ["sockets", "classes", "threads", "pages", "batch", "spare", "slots", "stops", "fault", "start"],
        {"moves": "(state)", "step": "(state, move)", "after": "(moves)", "run": "(moves)", "__eq__": None},
    ),
    ("state", "State"): (
        None, ["pages", "slots", "threads", "arrivals", "flight", "key"], {"__eq__": None},
    ),
    ("search", "Search"): (
        "(machine, *, limit=2000)", ["total"],
        {"states": "()", "ends": "()", "stuck": "()", "run_to": "(state)", "greatest": "(measure)", "bad_run": "()"},
    ),
    ("workbench", "Workbench"): (
        "(machine)", ["machine", "now"],
        {"play": "(move)", "finish": "(limit=1000)", "undo": "(amount=1)", "redo": "(amount=1)", "moves": "()",
         "events": "()", "clone": "()", "__eq__": None, "__len__": "()"},
    ),
    ("console", "Console"): ("(workbench)", [], {"execute": "(command)", "__len__": "()"}),
}

ERRORS = {
    "InvalidProgram": "index", "InvalidMachine": "name", "InvalidNumber": "value", "InvalidMove": "move",
    "InvalidRun": "index", "InvalidState": "state", "InvalidLogs": "index", "InvalidCommand": "value",
    "ParseError": "line", "LimitExceeded": "limit", "NothingToUndo": "amount",
}

MACHINE = Machine(2, [1], [(0, [("alloc", 0, 0)]), (1, [("free", 0)])], pages=1)
MOVES = moves_of("0 0 0 1 1 carry0 sweep0")
STATE = MACHINE.after(MOVES[:4])
SEARCH = Search(MACHINE)
TEXT = "sockets 1\nclasses 2\npages 4\nbatch 1\nspare 0\nslots 2\nstops 0\nthread 0\ndrain"

# Arguments of each function, in the order of its parameters.
ARGUMENTS = {
    "is_operation": [("free", 1)],
    "program_text": [[("free", 1), ("drain",)]],
    "parse_program": ["free 1\ndrain"],
    "run_text": [MOVES],
    "parse_run": ["step 0\ncarry 1"],
    "places": [MACHINE, STATE],
    "is_good": [MACHINE, STATE],
    "is_bad": [MACHINE, STATE],
    "load": [MACHINE, STATE, 0, 0],
    "small_pages": [MACHINE, STATE, 0, 0],
    "held": [STATE],
    "account": [MACHINE, MOVES, 0, 0],
    "costs": [MACHINE, MOVES],
    "ranks": [SEARCH],
    "check_ranks": [SEARCH, ranks(SEARCH)],
    "replayed": [MACHINE, MOVES, ranks(SEARCH)],
    "words_of": [MACHINE, STATE, ("step", 1)],
    "logs_of": [MACHINE, MOVES],
    "merged": [MACHINE, logs_of(MACHINE, MOVES)],
    "schedule": [MACHINE, "turns"],
    "first_bad": [MACHINE, MOVES],
    "shrunk": [MACHINE, MOVES],
    "is_key": [MACHINE, STATE.key],
    "state_of": [MACHINE, STATE.key],
    "check_closed": [MACHINE, [state.key for state in SEARCH.states()]],
    "same_runs": [MACHINE, MOVES, MOVES[:3]],
    "normal_run": [MACHINE, MOVES],
    "run_count": [SEARCH],
    "first_failure": [MACHINE],
    "least_pages": [MACHINE],
    "machine_text": [MACHINE],
    "parse_machine": [TEXT],
    "ledger": [MACHINE, MOVES],
    "first_wrong": [MACHINE, [(("step", 0), ())]],
    "report": [MACHINE, MOVES],
    "check_report": [MACHINE, report(MACHINE, MOVES)],
    "cleanup": [MACHINE, MOVES[:5]],
}


def functions():
    """Return the tuples (module, name, signature) that the document lists."""
    found = []
    for line in FUNCTIONS.strip().split("\n"):
        module, rest = line.split(": ")
        for part in rest.split("), "):
            name, parameters = part.rstrip(")").split("(")
            found.append((module, name, f"({parameters})"))
    return found


def class_of(module, name):
    return getattr(importlib.import_module(f"homefrees.{module}"), name)


def names_of(parameters):
    """Return the names of the parameters that are passed by position."""
    rest = parameters.strip("()").split("*")[0]
    return [part.split("=")[0] for part in rest.strip(", ").split(", ") if part]


class FunctionTests(unittest.TestCase):
    def test_all_functions_have_arguments_here(self):
        self.assertEqual([name for _, name, _ in functions()], list(ARGUMENTS))

    def test_functions_are_defined_where_they_are_listed(self):
        for module, name, parameters in functions():
            with self.subTest(name):
                function = class_of(module, name)
                self.assertTrue(inspect.isfunction(function))
                self.assertEqual(function.__module__, f"homefrees.{module}")
                self.assertEqual(function.__name__, name)
                self.assertEqual(str(inspect.signature(function)), parameters)

    def test_arguments_by_position_and_by_name(self):
        for module, name, parameters in functions():
            function, arguments = class_of(module, name), ARGUMENTS[name]
            names = names_of(parameters)
            self.assertEqual(len(names), len(arguments))
            wanted = function(*arguments)
            for many in range(len(names) + 1):
                with self.subTest(name, many=many):
                    named = dict(zip(names[many:], arguments[many:]))
                    found = function(*arguments[:many], **named)
                    self.assertEqual(found, wanted)
                    self.assertIs(found.__class__, wanted.__class__)

    def test_limits_by_name_alone(self):
        for name in ("first_failure", "least_pages"):
            function = class_of("analysis", name)
            self.assertEqual(function(machine=MACHINE, limit=8), function(MACHINE))
            with self.assertRaises(errors.LimitExceeded):
                function(MACHINE, limit=1)
            with self.assertRaises(TypeError):
                function(MACHINE, 8)


class ClassTests(unittest.TestCase):
    def test_classes_are_defined_where_they_are_listed(self):
        for (module, name), (parameters, properties, methods) in CLASSES.items():
            told = class_of(module, name)
            with self.subTest(name):
                self.assertTrue(inspect.isclass(told))
                self.assertEqual(told.__module__, f"homefrees.{module}")
                self.assertEqual(told.__bases__, (object,))
                if parameters is not None:
                    self.assertEqual(str(inspect.signature(told)), parameters)
                for part in properties:
                    self.assertIsInstance(vars(told)[part], property)
                for method, signature in methods.items():
                    self.assertTrue(inspect.isfunction(vars(told)[method]))
                    if signature is not None:
                        wanted = signature.replace("(", "(self, ").replace(", )", ")")
                        self.assertEqual(str(inspect.signature(vars(told)[method])), wanted)

    def test_machines_by_position_and_by_name(self):
        threads = [(0, [("alloc", 0, 0)])]
        numbers = {"pages": 3, "batch": 2, "spare": 1, "slots": 3, "stops": 1, "fault": "take"}
        one = Machine(1, [2], threads, **numbers)
        self.assertEqual(one, Machine(sockets=1, classes=[2], threads=threads, **numbers))
        self.assertEqual(one, Machine(threads=threads, **numbers, sockets=1, classes=[2]))
        for name, value in numbers.items():
            self.assertEqual(getattr(one, name), value)
        with self.assertRaises(TypeError):
            Machine(1, [2], threads, 3)

    def test_methods_of_machines(self):
        self.assertEqual(MACHINE.moves(state=STATE), MACHINE.moves(STATE))
        wanted = MACHINE.step(STATE, ("step", 1))
        self.assertEqual(MACHINE.step(STATE, move=("step", 1)), wanted)
        self.assertEqual(MACHINE.step(move=("step", 1), state=STATE), wanted)
        self.assertEqual(MACHINE.after(moves=MOVES), MACHINE.after(MOVES))
        self.assertEqual(MACHINE.run(moves=MOVES), MACHINE.run(MOVES))

    def test_searches(self):
        search = Search(machine=MACHINE, limit=8)
        self.assertEqual([search.total, Search(MACHINE, limit=8).total, SEARCH.total], [8, 8, 8])
        self.assertEqual(search.run_to(state=STATE), SEARCH.run_to(STATE))
        self.assertEqual(search.greatest(measure="away"), SEARCH.greatest("away"))
        with self.assertRaises(TypeError):
            Search(MACHINE, 8)

    def test_workbenches(self):
        bench = Workbench(machine=MACHINE)
        self.assertEqual(bench, Workbench(MACHINE))
        self.assertEqual(bench.play(move=("step", 0)), ("take", 0))
        self.assertEqual(bench.finish(limit=6), 6)
        self.assertIsNone(bench.undo(amount=3))
        self.assertIsNone(bench.redo(amount=2))
        self.assertEqual(bench.moves(), MOVES[:6])

    def test_consoles(self):
        console = Console(workbench=Workbench(MACHINE))
        self.assertEqual(console.execute(command="step 0"), "take 0")
        self.assertEqual(len(console), 1)


class ErrorTests(unittest.TestCase):
    def test_base_classes(self):
        self.assertEqual(errors.HeapError.__bases__, (ValueError,))
        others = {"LimitExceeded": OverflowError, "NothingToUndo": RuntimeError}
        for name in ERRORS:
            self.assertEqual(getattr(errors, name).__bases__, (others.get(name, errors.HeapError),))
            self.assertEqual(getattr(errors, name).__module__, "homefrees.errors")

    def test_fields_by_position_and_by_name(self):
        for name, field in ERRORS.items():
            for value in (None, 1, True, "word", [1], object()):
                error = getattr(errors, name)
                self.assertIs(getattr(error(value), field), value)
                self.assertIs(getattr(error(**{field: value}), field), value)


if __name__ == "__main__":
    unittest.main()
