"""homefrees.search: points [10] and [11], searches and ranks."""

import inspect
import unittest

from homefrees.errors import InvalidNumber, InvalidRun, InvalidState, LimitExceeded
from homefrees.loads import held
from homefrees.machine import Machine
from homefrees.places import is_bad
from homefrees.search import Search, check_ranks, ranks, replayed
from homefrees.state import State
from support import OTHERS, STRINGS, changed, moves_of, tiny_searches

LINE = Machine(1, [2], [(0, [("alloc", 0, 0)])], pages=2)
PAIR = Machine(2, [1], [(0, [("alloc", 0, 0)]), (1, [("free", 0)])], pages=1)
# Each thread makes a step, in any order: a state for each set of threads.
CUBE = Machine(1, [1], [(0, [("drain",)]), (0, [("drain",)]), (0, [("drain",)])])
STUCK = Machine(1, [1], [(0, [("free", 0)]), (0, [("drain",)])])
LOSING = changed(PAIR, batch=2, fault="batches")


SEARCHES = tiny_searches(41, 80, (None, "take", "fill", "batches"))


class StatesTests(unittest.TestCase):
    def test_example(self):
        search = Search(LINE)
        self.assertEqual([search.total, len(search.ends()), search.stuck()], [4, 1, []])
        self.assertEqual([search.greatest("held"), search.bad_run()], [(1, [("step", 0), ("step", 0)]), None])
        self.assertEqual(ranks(search), [(3, 3), (2, 2), (1, 1), (0, 0)])

    def test_states_in_the_order_of_discovery(self):
        found = [tuple(row[1] for row in state.threads) for state in Search(CUBE).states()]
        self.assertEqual(found, [
            (0, 0, 0), (1, 0, 0), (0, 1, 0), (0, 0, 1), (1, 1, 0), (1, 0, 1), (0, 1, 1), (1, 1, 1),
        ])

    def test_one_state(self):
        machine = Machine(1, [1], [(0, [])])
        search = Search(machine)
        self.assertEqual([search.total, search.states(), search.ends()], [1, [machine.start], [machine.start]])

    def test_breadth_first_with_the_moves_in_their_order(self):
        for machine, search in SEARCHES:
            states = [machine.start]
            runs = [[]]
            for state in states:
                for move in machine.moves(state):
                    follower = machine.step(state, move)[0]
                    if follower not in states:
                        runs.append(runs[states.index(state)] + [move])
                        states.append(follower)
            self.assertEqual(search.states(), states)
            self.assertEqual(search.total, len(states))
            self.assertEqual([search.run_to(state) for state in states], runs)

    def test_total_is_a_property(self):
        self.assertIsInstance(vars(Search)["total"], property)
        self.assertRaises(AttributeError, setattr, Search(LINE), "total", 3)
        for name in ("states", "ends", "stuck", "run_to", "greatest", "bad_run"):
            self.assertTrue(inspect.isfunction(vars(Search)[name]))

    def test_returned_lists_are_new(self):
        search = Search(PAIR)
        for method in (search.states, search.ends, search.stuck):
            found = method()
            expected = list(found)
            found.append("changed")
            self.assertEqual(method(), expected)
        last = search.states()[-1]
        search.run_to(last).append("changed")
        self.assertNotIn("changed", search.run_to(last))
        search.greatest("held")[1].append("changed")
        self.assertNotIn("changed", search.greatest("held")[1])
        bad = Search(LOSING)
        bad.bad_run().append("changed")
        self.assertNotIn("changed", bad.bad_run())


class LimitTests(unittest.TestCase):
    def test_limits_at_below_and_above_the_number_of_states(self):
        for machine, total in ((LINE, 4), (CUBE, 8)):
            for limit in range(1, 12):
                if limit >= total:
                    self.assertEqual(Search(machine, limit=limit).total, total)
                else:
                    with self.assertRaises(LimitExceeded) as caught:
                        Search(machine, limit=limit)
                    self.assertEqual(caught.exception.limit, limit)

    def test_least_and_greatest_limit(self):
        self.assertEqual(Search(Machine(1, [1], [(0, [])]), limit=1).total, 1)
        self.assertRaises(LimitExceeded, Search, LINE, limit=1)
        self.assertEqual(Search(LINE, limit=20000).total, 4)
        for limit in (0, -1, 20001, 10 ** 59):
            with self.assertRaises(InvalidNumber) as caught:
                Search(LINE, limit=limit)
            self.assertEqual(caught.exception.value, limit)

    def test_limits_of_other_kinds(self):
        for limit in OTHERS + STRINGS + [[], [4], (4,)]:
            with self.assertRaises(InvalidNumber) as caught:
                Search(LINE, limit=limit)
            self.assertIs(caught.exception.value, limit)

    def test_limit_is_keyword_only(self):
        self.assertRaises(TypeError, Search, LINE, 10)
        self.assertEqual(Search(machine=LINE, limit=10).total, 4)

    def test_default_limit(self):
        # A thread has one state more than it has operations: 10 * 10 * 20 states are 2000.
        def machine_of(*lengths):
            return Machine(1, [1], [(0, [("drain",)] * length) for length in lengths])

        self.assertEqual(Search(machine_of(9, 9, 19)).total, 2000)
        with self.assertRaises(LimitExceeded) as caught:
            Search(machine_of(9, 10, 19))
        self.assertEqual(caught.exception.limit, 2000)
        self.assertEqual(Search(machine_of(9, 10, 19), limit=2200).total, 2200)
        self.assertRaises(LimitExceeded, Search, machine_of(9, 10, 19), limit=2199)

    def test_twenty_thousand_states(self):
        machine = Machine(1, [1], [(0, [("drain",)] * length) for length in (24, 24, 30)])
        self.assertEqual(Search(machine, limit=20000).total, 25 * 25 * 31)
        machine = changed(machine, threads=[(0, [("drain",)] * length) for length in (25, 25, 30)])
        self.assertRaises(LimitExceeded, Search, machine, limit=20000)


class EndTests(unittest.TestCase):
    def test_stuck_states(self):
        search = Search(STUCK)
        self.assertEqual(search.total, 2)
        self.assertEqual(search.stuck(), [STUCK.after([("step", 1)])])
        self.assertEqual(search.ends(), search.stuck())

    def test_ends_in_the_order_of_discovery(self):
        # The two threads race for the only slot; the other one is stuck.
        machine = Machine(1, [1], [(0, [("large", 1, 0)]), (0, [("large", 2, 0)])])
        search = Search(machine)
        self.assertEqual(search.ends(), [machine.after([("step", 0)]), machine.after([("step", 1)])])
        self.assertEqual(search.stuck(), search.ends())

    def test_stops_are_possible_moves(self):
        search = Search(changed(STUCK, stops=2))
        self.assertEqual(search.stuck(), [])
        for state in search.ends():
            self.assertIn([row[0] for row in state.threads], [["recovered", "ended"], ["recovered", "recovered"]])

    def test_states_without_possible_moves(self):
        for machine, search in SEARCHES:
            expected = [state for state in search.states() if not machine.moves(state)]
            self.assertEqual(search.ends(), expected)
            running = [state for state in expected if "running" in [row[0] for row in state.threads]]
            self.assertEqual(search.stuck(), running)


class RunToTests(unittest.TestCase):
    def test_run_to_the_start(self):
        self.assertEqual(Search(LINE).run_to(LINE.start), [])

    def test_runs_lead_to_their_states(self):
        for machine, search in SEARCHES:
            for state in search.states():
                self.assertEqual(machine.after(search.run_to(state=state)), state)

    def test_runs_are_as_short_as_possible(self):
        for machine, search in SEARCHES[:30]:
            least = {machine.start.key: 0}
            for state in search.states():
                for move in machine.moves(state):
                    key = machine.step(state, move)[0].key
                    least[key] = min(least.get(key, 10 ** 9), least[state.key] + 1)
            for state in search.states():
                self.assertEqual(len(search.run_to(state)), least[state.key])

    def test_states_of_equal_machines_and_equal_states(self):
        search = Search(LINE)
        self.assertEqual(search.run_to(changed(LINE).after(moves_of("0 0"))), moves_of("0 0"))
        self.assertEqual(search.run_to(State(*LINE.after(moves_of("0")).key)), moves_of("0"))

    def test_states_that_the_search_does_not_have(self):
        search = Search(LINE)
        for state in (PAIR.start, PAIR.after(moves_of("0 0 0")), changed(LINE, pages=3).start,
                      State(*LINE.start.key[:4], ((0, ()),))):
            with self.assertRaises(InvalidState) as caught:
                search.run_to(state)
            self.assertIs(caught.exception.state, state)

    def test_any_value(self):
        search = Search(LINE)
        values = OTHERS + STRINGS + [0, 1, [], (), LINE, search, LINE.start.key, list(LINE.start.key), [LINE.start]]
        for value in values:
            with self.subTest(value=value):
                with self.assertRaises(InvalidState) as caught:
                    search.run_to(value)
                self.assertIs(caught.exception.state, value)


class MeasureTests(unittest.TestCase):
    def test_held(self):
        self.assertEqual(Search(LINE).greatest("held"), (1, moves_of("0 0")))
        machine = Machine(1, [1], [(0, [("large", 3, 0), ("free", 0), ("large", 2, 0)])])
        self.assertEqual(Search(machine).greatest("held"), (3, moves_of("0")))

    def test_flight(self):
        self.assertEqual(Search(LINE).greatest("flight"), (0, []))
        self.assertEqual(Search(PAIR).greatest("flight"), (1, moves_of("0 0 0 1 1")))

    def test_away(self):
        self.assertEqual(Search(LINE).greatest("away"), (1, moves_of("0 0")))
        machine = Machine(1, [3], [(0, [("alloc", 0, 0)])], batch=3)
        self.assertEqual(Search(machine).greatest("away"), (3, moves_of("0 0")))
        # Both threads of socket 0 have a block in their cache.
        machine = Machine(2, [3], [(0, [("alloc", 0, 0)]), (1, [("free", 0)]), (0, [("alloc", 0, 0), ("drain",)])])
        self.assertEqual(Search(machine).greatest("away"), (2, moves_of("0 0 2 2")))

    def test_each_place_is_counted(self):
        machine = Machine(2, [1], [
            (0, [("alloc", 0, 0)]), (1, [("free", 0)]), (0, [("drain",)]), (0, [("drain",)]),
        ], fault="take")
        self.assertEqual(Search(machine).greatest("away")[0], 3)
        self.assertEqual(Search(changed(machine, fault=None)).greatest("away")[0], 1)

    def test_first_of_the_greatest(self):
        for machine, search in SEARCHES:
            measures = {"held": held, "flight": lambda state: len(state.flight), "away": self.away}
            for name, measure in measures.items():
                values = [measure(state) for state in search.states()]
                number, moves = search.greatest(measure=name)
                self.assertEqual(number, max(values))
                self.assertEqual(moves, search.run_to(search.states()[values.index(max(values))]))

    def away(self, state):
        many = sum(len(blocks) for blocks in state.arrivals) + sum(len(blocks) for _, blocks in state.flight)
        for _, _, _, hand, caches, batches in state.threads:
            many += len(hand) + sum(map(len, caches)) + sum(len(batch) for row in batches for batch in row)
        return many

    def test_other_values(self):
        search = Search(LINE)
        for value in OTHERS + STRINGS + [0, 1, [], ["held"], ("held",), "Held", "held ", "pages", "load"]:
            with self.subTest(value=value):
                with self.assertRaises(InvalidNumber) as caught:
                    search.greatest(value)
                self.assertIs(caught.exception.value, value)


class BadRunTests(unittest.TestCase):
    def test_machine_with_a_bad_run(self):
        moves = Search(LOSING).bad_run()
        self.assertEqual(moves, moves_of("0 0 0 1 1"))
        self.assertTrue(is_bad(LOSING, LOSING.after(moves)))

    def test_machine_without_a_bad_run(self):
        self.assertIsNone(Search(PAIR).bad_run())
        self.assertIsNone(Search(changed(LOSING, batch=1)).bad_run())

    def test_two_threads_that_look(self):
        machine = Machine(1, [4], [
            (0, [("alloc", 0, 0), ("alloc", 0, 1)]), (0, [("alloc", 0, 2)]),
        ], slots=3, fault="fill")
        moves = Search(machine, limit=20000).bad_run()
        self.assertTrue(is_bad(machine, machine.after(moves)))
        self.assertFalse(is_bad(machine, machine.after(moves[:-1])))
        self.assertIsNone(Search(changed(machine, fault=None), limit=20000).bad_run())

    def test_first_bad_state(self):
        found = 0
        for machine, search in SEARCHES:
            bad = [state for state in search.states() if is_bad(machine, state)]
            self.assertEqual(search.bad_run(), search.run_to(bad[0]) if bad else None)
            found += len(bad) > 0
        self.assertGreater(found, 0)


class RanksTests(unittest.TestCase):
    def test_cube(self):
        self.assertEqual(ranks(search=Search(CUBE)), [(3, 3)] + [(2, 2)] * 3 + [(1, 1)] * 3 + [(0, 0)])

    def test_least_and_greatest_differ(self):
        # A stop and the recovery are two moves, and so are the two steps; a stop between them is one more.
        machine = Machine(1, [1], [(0, [("drain",)] * 2)], stops=1)
        found = ranks(Search(machine))
        self.assertEqual(found[0], (2, 3))
        self.assertEqual(found.count((0, 0)), len(Search(machine).ends()))

    def test_ranks_by_their_definition(self):
        for machine, search in SEARCHES:
            found = {state.key: rank for state, rank in zip(search.states(), ranks(search))}
            for state in search.states():
                behind = [found[machine.step(state, move)[0].key] for move in machine.moves(state)]
                expected = (0, 0)
                if behind:
                    expected = (1 + min(least for least, _ in behind), 1 + max(most for _, most in behind))
                self.assertEqual(found[state.key], expected)

    def test_list_and_tuples(self):
        found = ranks(Search(PAIR))
        self.assertIs(type(found), list)
        self.assertEqual({type(rank) for rank in found}, {tuple})
        self.assertEqual({type(number) for rank in found for number in rank}, {int})

    def test_long_runs(self):
        machine = Machine(1, [1], [(0, [("drain",)] * 30)] * 2)
        search = Search(machine)
        self.assertEqual([search.total, ranks(search)[0]], [961, (60, 60)])


class CheckRanksTests(unittest.TestCase):
    SEARCH = Search(changed(PAIR, stops=1))

    def assert_checked(self, value, expected):
        with self.subTest(value=value):
            self.assertIs(check_ranks(self.SEARCH, value), expected)

    def test_right_ranks(self):
        for _, search in SEARCHES:
            self.assertIs(check_ranks(search, ranks(search)), True)
        self.assertIs(check_ranks(search=self.SEARCH, ranks=ranks(self.SEARCH)), True)

    def test_one_number_changed(self):
        found = ranks(self.SEARCH)
        for number, (least, most) in enumerate(found):
            for wrong in ((least + 1, most), (least - 1, most), (least, most + 1), (least, most - 1)):
                self.assert_checked(found[:number] + [wrong] + found[number + 1:], False)

    def test_true_and_false_are_no_integers(self):
        found = ranks(self.SEARCH)
        self.assertIn((1, 1), found)
        for number, rank in enumerate(found):
            for wrong in ((bool(rank[0]), rank[1]), (rank[0], bool(rank[1]))):
                if wrong == rank:
                    self.assert_checked(found[:number] + [wrong] + found[number + 1:], False)

    def test_lists_for_tuples(self):
        found = ranks(self.SEARCH)
        self.assert_checked(tuple(found), False)
        for number in range(len(found)):
            self.assert_checked(found[:number] + [list(found[number])] + found[number + 1:], False)

    def test_pairs_too_many_or_too_few(self):
        found = ranks(self.SEARCH)
        self.assert_checked(found[:-1], False)
        self.assert_checked(found[1:], False)
        self.assert_checked(found + [(0, 0)], False)
        self.assert_checked([], False)
        self.assert_checked(found[::-1], False)

    def test_items_of_other_forms(self):
        found = ranks(self.SEARCH)
        for wrong in OTHERS + STRINGS + [0, (), (0,), (0, 0, 0), ("0", "0"), (None, None), ((0,), (0,))]:
            self.assert_checked(found[:-1] + [wrong], False)
            self.assert_checked([wrong] + found[1:], False)

    def test_values_of_other_kinds(self):
        for value in OTHERS + STRINGS + [0, 1, (), [()], {(0, 0)}, [[]]]:
            self.assert_checked(value, False)

    def test_argument_is_not_modified(self):
        found = ranks(self.SEARCH)
        check_ranks(self.SEARCH, found)
        self.assertEqual(found, ranks(self.SEARCH))


class ReplayedTests(unittest.TestCase):
    def test_ranks_along_a_run(self):
        found = ranks(Search(LINE))
        self.assertEqual(replayed(LINE, moves_of("0 0"), found), [(3, 3), (2, 2), (1, 1)])
        self.assertEqual(replayed(machine=LINE, moves=(), ranks=found), [(3, 3)])

    def test_numbers_are_those_of_the_states(self):
        found = ranks(Search(CUBE))
        named = [(number, number) for number in range(len(found))]
        self.assertEqual(replayed(CUBE, moves_of("2 0 1"), named), [(0, 0), (3, 3), (5, 5), (7, 7)])

    def test_runs_that_are_not_possible(self):
        for moves, index in (([("step", 1)], 0), (moves_of("0 0 0 0"), 3), (None, None), ("", None), (True, None)):
            for found in ([], ranks(Search(LINE))):
                with self.assertRaises(InvalidRun) as caught:
                    replayed(LINE, moves, found)
                self.assertEqual(caught.exception.index, index)

    def test_limit_of_the_search(self):
        machine = Machine(1, [1], [(0, [("drain",)] * length) for length in (9, 10, 19)])
        with self.assertRaises(LimitExceeded) as caught:
            replayed(machine, moves_of("0"), [])
        self.assertEqual(caught.exception.limit, 2000)
        self.assertRaises(InvalidRun, replayed, machine, moves_of("3"), [])

    def test_first_state_without_an_item(self):
        found = ranks(Search(CUBE))
        states = [CUBE.after(moves_of(text)) for text in ("", "2", "2 0", "2 0 1")]
        for many, number in ((0, 0), (1, 1), (3, 1), (4, 2), (5, 2), (6, 3), (7, 3)):
            with self.assertRaises(InvalidState) as caught:
                replayed(CUBE, moves_of("2 0 1"), found[:many])
            self.assertEqual(caught.exception.state, states[number])
        self.assertEqual(len(replayed(CUBE, moves_of("2 0 1"), found[:8])), 4)

    def test_returned_list_is_new(self):
        found = ranks(Search(LINE))
        replayed(LINE, [], found).append("changed")
        self.assertEqual(replayed(LINE, [], found), [(3, 3)])
        self.assertEqual(len(found), 4)


if __name__ == "__main__":
    unittest.main()
