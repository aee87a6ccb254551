"""Consoles: commands on a workbench."""

import random
import unittest

from homefrees.console import Console
from homefrees.errors import InvalidCommand, InvalidMove, LimitExceeded, NothingToUndo
from homefrees.loads import held
from homefrees.machine import Machine
from homefrees.runs import run_text
from homefrees.workbench import Workbench
from support import OTHERS, long_bench, moves_of, random_machine

THREADS = [(0, [("alloc", 0, 0)]), (1, [("free", 0)])]
MACHINE = Machine(2, [1], THREADS, pages=1)

MOVE_WORDS = ["step", "carry", "stop", "recover", "sweep"]
OTHER_COMMANDS = ["moves", "finish", "undo", "redo", "slots", "held", "flight", "run"]

CHARACTERS = "".join(map(chr, range(ord(" "), ord("~") + 1))) + "\n"


def console_behind(text, machine=MACHINE):
    bench = Workbench(machine)
    for move in moves_of(text):
        bench.play(move)
    return Console(bench)


def is_command(text):
    """Return whether the text is a command, as the table of the document tells."""
    if text in OTHER_COMMANDS:
        return True
    for word in MOVE_WORDS:
        digits = text[len(word) + 1:]
        if text.startswith(word + " ") and digits and set(digits) <= set("0123456789") and len(digits) <= 9:
            return digits == "0" or digits[0] != "0"
    return False


class CommandTests(unittest.TestCase):
    def check(self, machine, commands, wanted):
        console = Console(Workbench(machine))
        self.assertEqual([console.execute(command) for command in commands], wanted)

    def test_example_of_the_document(self):
        bench = Workbench(Machine(1, [2], [(0, [("alloc", 0, 0)])], pages=2))
        console = Console(bench)
        found = [
            console.execute("step 0"), console.execute("moves"), bench.finish(), console.execute("slots"),
            console.execute("run"),
        ]
        self.assertEqual(found, ["take 0", "step 0", 2, "0.0,-", "step 0,step 0,step 0"])

    def test_events_of_moves(self):
        commands = ["step 0", "step 0", "step 0", "step 1", "step 1", "carry 0", "sweep 0"]
        wanted = ["take 0", "open 0", "hit 0.0", "batch 0.0", "send 0 1", "carry 0 1", "sweep 1"]
        self.check(MACHINE, commands, wanted)

    def test_events_with_blocks(self):
        threads = [(0, [("alloc", 1, 0), ("alloc", 1, 1), ("free", 0), ("free", 1)])]
        machine = Machine(1, [1, 3], threads, pages=2)
        commands = ["step 0"] * 9
        wanted = ["take 0", "open 0", "hit 0.0", "take 0", "fill 0", "hit 0.1", "keep 0.0", "home 0.1", "home 0.0"]
        self.check(machine, commands, wanted)

    def test_events_of_large_blocks_and_failures(self):
        threads = [(0, [("large", 2, 1), ("grow", 1), ("large", 2, 0), ("free", 0), ("free", 1)])]
        machine = Machine(1, [1], threads, pages=4)
        commands = ["step 0", "slots", "step 0", "step 0", "slots", "step 0", "step 0", "slots"]
        wanted = [
            "large 0 2", "-,large 0 2", "grow 0 3", "fail", "failure,large 0 3", "nothing", "return 0 3", "-,-",
        ]
        self.check(machine, commands, wanted)

    def test_events_of_stops_adoptions_and_passing_on(self):
        threads = [(0, [("alloc", 0, 0), ("alloc", 0, 1)]), (1, [("free", 0), ("adopt", 1)]), (0, [("drain",)])]
        machine = Machine(2, [3], threads, pages=1, stops=1)
        commands = [f"{word} {number}" for word, number in moves_of("0 0 0 0 0 0 1 1 1 carry0 2 2")]
        wanted = [
            "take 0", "open 0", "hit 0.0", "take 0", "fill 0", "hit 0.1", "batch 0.0", "send 0 1", "adopt 0 0",
            "carry 0 1", "take 1", "pass 0.0",
        ]
        self.check(machine, commands, wanted)
        self.check(machine, ["step 0", "step 0", "stop 0", "moves", "recover 0", "moves", "run"], [
            "take 0", "open 0", "stop 0", "recover 0,step 2", "recover 1", "step 2",
            "step 0,step 0,stop 0,recover 0",
        ])

    def test_events_of_machines_with_a_fault(self):
        program = [("alloc", 0, 0)]
        self.check(Machine(1, [1], [(0, program)], fault="take"), ["step 0"] * 2, ["read 0", "clear 0"])
        threads = [(0, [("alloc", 0, 0), ("alloc", 0, 1)])]
        self.check(Machine(1, [2], threads, fault="fill"), ["step 0"] * 6,
                   ["take 0", "open 0", "hit 0.0", "take 0", "look 0", "fill 0"])
        machine = Machine(2, [1], THREADS, batch=2, fault="batches")
        self.check(machine, ["step 0"] * 3 + ["step 1"] * 2, ["take 0", "open 0", "hit 0.0", "batch 0.0", "drop 0 1"])

    def test_event_of_a_block_that_vanishes(self):
        chooser = random.Random(61)
        seen = 0
        while seen < 5:
            bench = Workbench(random_machine(chooser, chooser.choice(["take", "fill"])))
            console = Console(bench)
            while bench.machine.moves(bench.now):
                word, number = chooser.choice(bench.machine.moves(bench.now))
                found = console.execute(f"{word} {number}")
                event = bench.events()[-1]
                if event[0] == "vanish":
                    self.assertEqual(found, f"vanish {event[1][0]}.{event[1][1]}")
                    seen += 1

    def test_possible_moves(self):
        machine = Machine(2, [1], [(0, [("alloc", 0, 0)]), (1, [("alloc", 0, 1)])], pages=2, stops=1)
        self.check(machine, ["moves", "stop 1", "moves"], [
            "step 0,step 1,stop 0,stop 1", "stop 1", "recover 1,step 0",
        ])
        self.check(MACHINE, ["moves"], ["step 0"])
        self.check(Machine(1, [1], [(0, [])]), ["moves"], ["-"])

    def test_moves_that_are_played(self):
        self.check(MACHINE, ["run", "step 0", "run", "undo", "run"], ["-", "take 0", "step 0", "ok", "-"])
        self.check(MACHINE, ["finish", "run"], ["7", "step 0,step 0,step 0,step 1,step 1,carry 0,sweep 0"])

    def test_finish(self):
        self.check(MACHINE, ["step 0", "finish", "finish", "moves"], ["take 0", "6", "0", "-"])

    def test_undo_and_redo(self):
        self.check(MACHINE, ["step 0", "step 0", "undo", "undo", "redo", "run", "redo", "run"], [
            "take 0", "open 0", "ok", "ok", "ok", "step 0", "ok", "step 0,step 0",
        ])

    def test_slots(self):
        self.check(MACHINE, ["slots", "step 0", "step 0", "step 0", "slots"],
                   ["-,-", "take 0", "open 0", "hit 0.0", "0.0,-"])
        threads = [(0, [("alloc", 0, 2), ("large", 3, 0), ("large", 4, 1)])]
        self.check(Machine(1, [1], threads, slots=4), ["finish", "slots"], ["5", "large 1 3,failure,0.0,-"])
        self.check(Machine(1, [1], [(0, [])], slots=1), ["slots"], ["-"])

    def test_held_and_flight(self):
        self.check(MACHINE, ["held", "flight", "step 0", "step 0", "held", "step 0", "step 1", "step 1", "flight",
                             "carry 0", "flight", "held", "sweep 0", "held"],
                   ["0", "0", "take 0", "open 0", "1", "hit 0.0", "batch 0.0", "send 0 1", "1", "carry 0 1", "0", "1",
                    "sweep 1", "0"])
        # Spare pages and those of large blocks are held, too.
        threads = [(0, [("alloc", 0, 0), ("free", 0), ("large", 2, 0)])]
        self.check(Machine(1, [1], threads, spare=1), ["finish", "held"], ["6", "3"])

    def test_many_random_commands(self):
        chooser = random.Random(62)
        for _ in range(40):
            machine = random_machine(chooser, chooser.choice([None, "take", "fill", "batches"]))
            bench = Workbench(machine)
            console = Console(bench)
            for _ in range(30):
                self.assertEqual(len(console), len(bench))
                self.assertEqual(console.execute("held"), str(held(bench.now)))
                self.assertEqual(console.execute("flight"), str(len(bench.now.flight)))
                possible = machine.moves(bench.now)
                self.assertEqual(console.execute("moves"), run_text(possible).replace("\n", ",") or "-")
                self.assertEqual(console.execute("run"), run_text(bench.moves()).replace("\n", ",") or "-")
                if not possible:
                    break
                move = chooser.choice(possible)
                wanted = [
                    f"{part[0]}.{part[1]}" if isinstance(part, tuple) else str(part)
                    for part in machine.step(bench.now, move)[1]
                ]
                self.assertEqual(console.execute(run_text([move])), " ".join(wanted))


class WorkbenchTests(unittest.TestCase):
    def test_the_workbench_is_the_one_that_was_given(self):
        bench = Workbench(MACHINE)
        console, other = Console(bench), Console(bench)
        console.execute("step 0")
        self.assertEqual(bench.moves(), moves_of("0"))
        bench.play(("step", 0))
        self.assertEqual(console.execute("run"), "step 0,step 0")
        self.assertEqual(other.execute("undo"), "ok")
        self.assertEqual(len(bench), 1)
        bench.redo()
        self.assertEqual([len(console), len(other)], [2, 2])

    def test_lengths(self):
        console = console_behind("0 0 0")
        self.assertEqual(len(console), 3)
        console.execute("undo")
        self.assertEqual(len(console), 2)
        console.execute("finish")
        self.assertEqual(len(console), 7)
        self.assertEqual(len(Console(Workbench(MACHINE))), 0)


class ErrorTests(unittest.TestCase):
    def check_refused(self, console, command, error, field, value):
        """Check the error, and that no move is played."""
        moves = console.execute("run")
        with self.subTest(command=command):
            with self.assertRaises(error) as caught:
                console.execute(command)
            self.assertIs(caught.exception.__class__, error)
            self.assertEqual(vars(caught.exception), {field: value})
            self.assertEqual(console.execute("run"), moves)

    def check_no_command(self, command):
        console = console_behind("0 0 0")
        console.execute("undo")
        with self.subTest(command=command):
            with self.assertRaises(InvalidCommand) as caught:
                console.execute(command)
            self.assertIs(caught.exception.value, command)
        console.execute("redo")
        self.assertEqual(len(console), 3)

    def test_moves_that_are_not_possible(self):
        console = console_behind("0 0 0")
        console.execute("undo")
        for move in ["step 1", "carry 0", "stop 0", "recover 0", "sweep 0", "sweep 1", "step 2", "step 999999999",
                     "carry 10", "sweep 123456789"]:
            word, number = move.split(" ")
            self.check_refused(console, move, InvalidMove, "move", (word, int(number)))
        # What is taken back is still there.
        console.execute("redo")
        self.assertEqual(len(console), 3)

    def test_nothing_to_undo(self):
        console = console_behind("")
        self.check_refused(console, "undo", NothingToUndo, "amount", 1)
        self.check_refused(console, "redo", NothingToUndo, "amount", 1)
        console.execute("step 0")
        self.check_refused(console, "redo", NothingToUndo, "amount", 1)

    def test_too_many_moves_to_finish(self):
        console = Console(long_bench())
        self.check_refused(console, "finish", LimitExceeded, "limit", 1000)

    def test_values_of_other_kinds(self):
        for value in [*OTHERS, 0, 1, -1, 10 ** 40, (), [], ("step", 0), ["step", 0], ["undo"], ("undo",), b"undo",
                      b"step 0", {"undo": 1}, moves_of("0"), MACHINE, [[[]]]]:
            self.check_no_command(value)

    def test_words_more_or_less(self):
        for word in MOVE_WORDS:
            for command in (word, word + " ", " " + word, word + " 0 0", word + " 0 1", word + " " + word, word + "0"):
                self.check_no_command(command)
        for word in OTHER_COMMANDS:
            for command in (word + " 0", word + " 1", word + " ", " " + word, f"{word} {word}", word + "s", "step " + word):
                self.check_no_command(command)
        for command in ("", " ", "0", "0 step", "walk 0", "walk", "step step 0", "finish 1000", "undo 1", "redo 2"):
            self.check_no_command(command)

    def test_blanks(self):
        for word in MOVE_WORDS:
            for command in (word + "  0", word + " 0 ", " " + word + " 0", word + "\t0", word + "\n0", word + " 0\n"):
                self.check_no_command(command)
        for word in OTHER_COMMANDS:
            for command in (word + "\n", "\n" + word, word + "  "):
                self.check_no_command(command)

    def test_numbers(self):
        for number in ("00", "01", "000000000", "012", "1234567890", "0000000000", "9999999999", "-0", "-1", "+1", "1.",
                       "1_0", "0x1", "a", "1,0", "true", "None", "(0)"):
            for word in MOVE_WORDS:
                self.check_no_command(f"{word} {number}")

    def test_one_character_changed_inserted_or_left_out(self):
        texts = [f"{word} {number}" for word in MOVE_WORDS for number in (0, 10)] + OTHER_COMMANDS
        for text in texts:
            others = {text[:at] + text[at + 1:] for at in range(len(text))}
            for character in CHARACTERS:
                others |= {text[:at] + character + text[at:] for at in range(len(text) + 1)}
                others |= {text[:at] + character + text[at + 1:] for at in range(len(text))}
            console = console_behind("")
            for other in sorted(others):
                is_told = self.is_told(console, other)
                with self.subTest(command=other):
                    self.assertEqual(is_told, is_command(other))

    def is_told(self, console, command):
        """Return whether the command is one, though it may not be possible."""
        try:
            self.assertIsInstance(console.execute(command), str)
        except InvalidCommand as error:
            self.assertIs(error.value, command)
            return False
        except (InvalidMove, NothingToUndo):
            return True
        return True


if __name__ == "__main__":
    unittest.main()
