"""The guarantees of the document, over many runs of machines without a fault.

Here are 1 to 5, 8, and parts of 10 and 12. The others stand beside what they are about: 6 in test_search,
7 in test_keys, 9 in test_analysis, 10 in test_logs, 11 in test_ledgers and test_reports, and 12 in
test_texts and test_workbench.
"""

import random
import unittest

from homefrees.loads import account, costs, load, small_pages
from homefrees.logs import logs_of, merged, words_of
from homefrees.places import is_bad, is_good, places
from homefrees.runs import parse_run, run_text
from homefrees.search import ranks, replayed
from support import random_runs, tiny_searches

RUNS = random_runs(1, 400)


SEARCHES = tiny_searches(2, 60)


def rounded_up(number, divisor):
    return -(-number // divisor)


def owner(move):
    return move[1] if move[0] in ("step", "stop") else "carrier"


class RunTests(unittest.TestCase):
    def test_the_runs_have_all_events(self):
        words = {event[0] for machine, moves in RUNS for _, event in machine.run(moves)}
        self.assertEqual(words, set(
            "hit take home pass fill open fail keep batch nothing return adopt large grow send stop carry recover "
            "sweep".split()
        ))

    def test_each_block_is_in_exactly_one_place(self):
        for machine, moves in RUNS:
            for state in [machine.start] + [state for state, _ in machine.run(moves)]:
                self.assertTrue(is_good(machine, state))
                self.assertFalse(is_bad(machine, state))
                self.assertEqual({len(found) for found in places(machine, state).values()} - {1}, set())

    def test_coming_home(self):
        ended = 0
        for machine, moves in RUNS:
            state = machine.after(moves)
            self.assertEqual(machine.moves(state), [])
            if "running" in [row[0] for row in state.threads]:
                continue
            ended += 1
            found = places(machine, state)
            for (page, _), block_places in found.items():
                self.assertIn(block_places[0][0], ("page", "slot"))
            in_slots = {page for (page, _), block_places in found.items() if block_places[0][0] == "slot"}
            small = {page for page, use in enumerate(state.pages) if use[0] == "small"}
            self.assertEqual(in_slots, small)
        self.assertGreater(ended, 20)

    def test_bound(self):
        reached = 0
        for machine, moves in RUNS:
            rows = machine.run(moves)
            for kind, blocks in enumerate(machine.classes):
                for socket in range(machine.sockets):
                    for pages, greatest, adopted in account(machine, moves, kind, socket):
                        self.assertLessEqual(pages, rounded_up(greatest, blocks) + adopted)
                        reached += adopted
            for state, event in rows:
                if event[0] == "open":
                    _, home, kind, _ = state.pages[event[1]]
                    self.assertEqual(
                        small_pages(machine, state, kind, home),
                        rounded_up(load(machine, state, kind, home), machine.classes[kind]),
                    )
        self.assertGreater(reached, 100)

    def test_passing_on(self):
        passed = 0
        for machine, moves in RUNS:
            # For each block that is away, how often it was passed on, and its page adopted, since it left.
            counts = {}
            before = machine.start
            for state, event in machine.run(moves):
                held = {slot[1:] for slot in state.slots if slot is not None and slot[0] == "block"}
                if event[0] == "adopt":
                    for block, count in counts.items():
                        if block[0] == event[1]:
                            count[1] += 1
                for block in places(machine, state):
                    if block in held or places(machine, state)[block] == [("page",)]:
                        counts.pop(block, None)
                    else:
                        counts.setdefault(block, [0, 0])
                for block in self.passed(before, state, event):
                    counts[block][0] += 1
                    passed += 1
                self.assertTrue(all(passes <= adoptions for passes, adoptions in counts.values()))
                before = state
        self.assertGreater(passed, 20)

    def passed(self, before, state, event):
        """Return the blocks that are passed on."""
        if event[0] == "pass":
            return [event[1]]
        if event[0] == "sweep":
            return [block for _, blocks in state.flight[len(before.flight):] for block in blocks]
        return []

    def test_inequality_of_costs(self):
        for machine, moves in RUNS:
            if "stop" in [word for word, _ in moves]:
                continue
            _, _, _, batched, messages, passed = costs(machine, moves)
            batches = [batch for row in machine.after(moves).threads for part in row[5] for batch in part if batch]
            self.assertLessEqual(batched // machine.batch + passed, messages + len(batches))
            for many in range(0, len(moves), 7):
                _, _, _, batched, messages, passed = costs(machine, moves[:many])
                batches = [
                    batch for row in machine.after(moves[:many]).threads for part in row[5] for batch in part if batch
                ]
                self.assertLessEqual(batched // machine.batch + passed, messages + len(batches))

    def test_logs_give_back_a_run_with_the_same_logs(self):
        for machine, moves in RUNS[:150]:
            logs = logs_of(machine, moves)
            word, found = merged(machine, logs)
            self.assertEqual(word, "run")
            self.assertEqual(logs_of(machine, found), logs)
            self.assertEqual(sorted(map(owner, found), key=str), sorted(map(owner, moves), key=str))

    def test_texts_are_read_back(self):
        for _, moves in RUNS:
            self.assertEqual(parse_run(run_text(moves)), moves)


class SearchTests(unittest.TestCase):
    def test_the_searches_have_many_states(self):
        self.assertGreater(sum(search.total for _, search in SEARCHES), 1500)
        self.assertGreater(max(search.total for _, search in SEARCHES), 200)

    def test_each_block_is_in_exactly_one_place_in_each_state(self):
        for machine, search in SEARCHES:
            self.assertIsNone(search.bad_run())
            for state in search.states():
                self.assertTrue(is_good(machine, state))

    def test_every_run_is_as_long_as_its_ranks_tell(self):
        chooser = random.Random(3)
        for machine, search in SEARCHES:
            found = ranks(search)
            for _ in range(5):
                state, moves = machine.start, []
                while machine.moves(state):
                    moves.append(chooser.choice(machine.moves(state)))
                    state = machine.step(state, moves[-1])[0]
                along = replayed(machine, moves, found)
                self.assertEqual(along[-1], (0, 0))
                for number, (least, most) in enumerate(along):
                    self.assertTrue(least <= len(moves) - number <= most)

    def test_runs_of_both_lengths_exist(self):
        for machine, search in SEARCHES:
            found = {state.key: rank for state, rank in zip(search.states(), ranks(search))}
            for side in (0, 1):
                state, many = machine.start, 0
                while machine.moves(state):
                    followers = [machine.step(state, move)[0] for move in machine.moves(state)]
                    wanted = found[state.key][side] - 1
                    state = next(follower for follower in followers if found[follower.key][side] == wanted)
                    many += 1
                self.assertEqual(many, found[machine.start.key][side])

    def test_moves_without_a_common_word_can_be_exchanged(self):
        exchanged = 0
        for machine, search in SEARCHES:
            for state in search.states():
                moves = machine.moves(state)
                for first in moves:
                    for second in moves:
                        words = set(words_of(machine, state, first)) & set(words_of(machine, state, second))
                        if owner(first) == owner(second) or words:
                            continue
                        exchanged += 1
                        one = machine.step(machine.step(state, first)[0], second)
                        other = machine.step(machine.step(state, second)[0], first)
                        self.assertEqual(one[0], other[0])
                        # Each move finds the same in both orders.
                        self.assertEqual(one[1], machine.step(state, second)[1])
        self.assertGreater(exchanged, 500)


if __name__ == "__main__":
    unittest.main()
