"""The examples of the document, as it shows them, by the numbers of its points."""

import doctest
import unittest

EXAMPLES = {
    1: r"""
>>> from homefrees.programs import parse_program, program_text
>>> [parse_program('alloc 0 1\nfree 1\ndrain'), program_text([('large', 2, 0), ('grow', 0)]), parse_program('')]
[[('alloc', 0, 1), ('free', 1), ('drain',)], 'large 2 0\ngrow 0', []]
""",
    2: r"""
>>> from homefrees.machine import Machine
>>> m = Machine(1, [2], [(0, [('alloc', 0, 0)])], pages=2)
>>> last = m.after([('step', 0)] * 3)
>>> [[event for state, event in m.run([('step', 0)] * 3)], last.pages, last.slots, last.threads]
[[('take', 0), ('open', 0), ('hit', (0, 0))], (('small', 0, 0, (1,)), ('store',)), (('block', 0, 0), None), (('ended', 1, 'over', (), ((),), (((),),)),)]
""",
    4: r"""
>>> from homefrees.machine import Machine
>>> m = Machine(2, [1], [(0, [('alloc', 0, 0)]), (1, [('free', 0)])], pages=1)
>>> rows = m.run([('step', 0), ('step', 0), ('step', 0), ('step', 1), ('step', 1), ('carry', 0), ('sweep', 0)])
>>> [[event for state, event in rows], rows[4][0].flight, rows[5][0].arrivals, rows[6][0].pages]
[[('take', 0), ('open', 0), ('hit', (0, 0)), ('batch', (0, 0)), ('send', 0, 1), ('carry', 0, 1), ('sweep', 1)], ((0, ((0, 0),)),), (((0, 0),), ()), (('store',),)]
""",
    6: r"""
>>> from homefrees.machine import Machine
>>> from homefrees.places import places, is_good
>>> m = Machine(1, [2], [(0, [('alloc', 0, 0)])], pages=2)
>>> last = m.after([('step', 0)] * 3)
>>> [places(m, last), is_good(m, last)]
[{(0, 0): [('slot', 0)], (0, 1): [('page',)]}, True]
""",
    7: r"""
>>> from homefrees.machine import Machine
>>> from homefrees.loads import account
>>> account(Machine(1, [2], [(0, [('alloc', 0, 0)])], pages=2), [('step', 0)] * 3, 0, 0)
[(0, 0, 0), (0, 0, 0), (1, 1, 0), (1, 1, 0)]
""",
    10: r"""
>>> from homefrees.machine import Machine
>>> from homefrees.search import Search, ranks
>>> s = Search(Machine(1, [2], [(0, [('alloc', 0, 0)])], pages=2))
>>> [s.total, len(s.ends()), s.stuck(), s.greatest('held'), s.bad_run(), ranks(s)]
[4, 1, [], (1, [('step', 0), ('step', 0)]), None, [(3, 3), (2, 2), (1, 1), (0, 0)]]
""",
    12: r"""
>>> from homefrees.machine import Machine
>>> from homefrees.logs import logs_of, merged
>>> m = Machine(1, [2], [(0, [('alloc', 0, 0)])], pages=2)
>>> logs = logs_of(m, [('step', 0)] * 2)
>>> [logs, merged(m, logs), merged(m, [logs[0][1:], []])]
[[[(('step', 0), ('take', 0), ((('arrivals', 0), 0),)), (('step', 0), ('open', 0), ((('pages',), 0),))], []], ('run', [('step', 0), ('step', 0)]), ('stuck', [0, 0])]
""",
    14: r"""
>>> from homefrees.machine import Machine
>>> from homefrees.workbench import Workbench
>>> from homefrees.console import Console
>>> bench = Workbench(Machine(1, [2], [(0, [('alloc', 0, 0)])], pages=2))
>>> console = Console(bench)
>>> [console.execute('step 0'), console.execute('moves'), bench.finish(), console.execute('slots'), console.execute('run')]
['take 0', 'step 0', 2, '0.0,-', 'step 0,step 0,step 0']
""",
    15: r"""
>>> from homefrees.machine import Machine
>>> from homefrees.search import Search
>>> from homefrees.keys import is_key, check_closed
>>> m = Machine(1, [2], [(0, [('alloc', 0, 0)])], pages=2)
>>> keys = [state.key for state in Search(m).states()]
>>> [is_key(m, keys[1]), check_closed(m, keys), check_closed(m, keys[:2]), is_key(m, keys[0][:4] + (((0, ()),),))]
[True, True, False, False]
""",
    16: r"""
>>> from homefrees.machine import Machine
>>> from homefrees.schedules import schedule, first_bad, shrunk
>>> m = Machine(2, [1], [(0, [('alloc', 0, 0)]), (1, [('free', 0)])], pages=1, batch=2, fault='batches')
>>> moves = schedule(m, 'turns')
>>> [moves, first_bad(m, moves), len(shrunk(m, moves)), schedule(Machine(1, [1], [(0, [])]), 'late')]
[[('step', 0), ('step', 0), ('step', 0), ('step', 1), ('step', 1)], 5, 5, []]
""",
    18: r"""
>>> from homefrees.machine import Machine
>>> from homefrees.search import Search
>>> from homefrees.analysis import normal_run, same_runs, run_count, first_failure, least_pages
>>> m = Machine(2, [2], [(0, [('alloc', 0, 0)]), (1, [('alloc', 0, 1)])], pages=2)
>>> one, two = [('step', 1), ('step', 0)], [('step', 0), ('step', 1)]
>>> [normal_run(m, one), same_runs(m, one, two), run_count(Search(m)), first_failure(m), least_pages(m)]
[[('step', 0), ('step', 1)], True, 20, None, 2]
""",
    19: r"""
>>> from homefrees.texts import machine_text, parse_machine
>>> m = parse_machine('sockets 1\nclasses 2\npages 4\nbatch 1\nspare 0\nslots 2\nstops 0\nthread 0\nrepeat 2\nalloc 0 1\nfree 1\nend')
>>> [m.threads, parse_machine(machine_text(m)) == m, machine_text(m).split('\n')[7:9]]
[((0, (('alloc', 0, 1), ('free', 1), ('alloc', 0, 1), ('free', 1))),), True, ['thread 0', 'alloc 0 1']]
""",
    22: r"""
>>> from homefrees.machine import Machine
>>> from homefrees.ledgers import ledger, first_wrong
>>> from homefrees.reports import report, check_report, cleanup
>>> m = Machine(2, [1], [(0, [('alloc', 0, 0)]), (1, [('free', 0)])], pages=1)
>>> moves = [('step', 0), ('step', 0), ('step', 0), ('step', 1), ('step', 1), ('carry', 0), ('sweep', 0)]
>>> rows = ledger(m, moves)
>>> [rows[1], rows[6], first_wrong(m, rows), first_wrong(m, rows[:2] + rows[3:]), cleanup(m, moves[:5]), check_report(m, report(m, moves))]
[(('step', 0), (((0, 0), ('free',), ('cache', 0)),)), (('sweep', 0), (((0, 0), ('arrivals', 0), ('free',)),)), None, 2, [('carry', 0), ('sweep', 0)], True]
""",
}


class DocumentTests(unittest.TestCase):
    def run_examples(self, text, name):
        test = doctest.DocTestParser().get_doctest(text, {}, name, None, 0)
        found = []
        doctest.DocTestRunner().run(test, out=found.append)
        self.assertEqual("".join(found), "")
        return len(test.examples)

    def test_examples(self):
        for point, text in EXAMPLES.items():
            with self.subTest(point=point):
                self.assertGreater(self.run_examples(text, f"point {point}"), 1)


if __name__ == "__main__":
    unittest.main()
