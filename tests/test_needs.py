"""Which steps are needed, and which may be exchanged: [6]."""

import time
import unittest

from tests.model import Maker, needed_of, seen_of, standing_of, worlds_of
from twinleaves.alikes import Unlike
from twinleaves.errors import BadPlace, BadScript
from twinleaves.needs import Needed, may_exchange, needed
from twinleaves.reading import read_script
from twinleaves.scripts import Script

X = ('input', 'x')
EXAMPLE = 'task a; map a 0 2 zero rw; put a 0.0 = x; put a 1.0 = 3; show a 0.0'


def told(text, leaves=4, cells=1):
    return read_script(f'space {leaves} leaves {cells} cells\n' + text.replace('; ', '\n'))


def at_places(script, places):
    return Script(script.leaves, script.cells, [script.steps[place] for place in places])


class NeededTest(unittest.TestCase):

    def judge(self, script, places=None):
        found = needed(script)
        if places is not None:
            self.assertEqual(found.places, places)
        self.assertEqual(len(found.reasons), len(found.places))
        stay = at_places(script, found.places)
        self.assertEqual(seen_of(stay), seen_of(script))
        for at, reason in enumerate(found.reasons):
            fewer = at_places(script, found.places[:at] + found.places[at + 1:])
            self.assertIs(type(reason), Unlike)
            self.assertIs(reason.shows(stay, fewer), True)
        self.assertIs(found.shows(script), True)
        self.assertEqual(found, needed(script))
        return found

    def test_example(self):
        self.judge(told(EXAMPLE), [0, 1, 2, 4])

    def test_scripts(self):
        for text, places in (('', []), ('task a', []), ('show a 0.0', [0]), ('show a 0.0; task a; show a 0.0', [0, 2]),
                             ('task a; task a; map a 0 1 zero r; show a 0.0', [0, 2, 3]),
                             ('task a; map a 0 1 zero rw; put a 0.0 = 1; put a 0.0 = 2; show a 0.0', [0, 1, 3, 4]),
                             ('task a; map a 0 1 zero rw; put a 0.0 = 1; put a 0.0 = 0; show a 0.0', [0, 1, 4]),
                             ('task a; map a 0 1 zero rw; put a 0.0 = x; put a 0.0 = a 0.0; show a 0.0', [0, 1, 2, 4]),
                             ('task a; map a 0 2 zero rw; put a 0.0 = x - x; guard a 0 1 r; show a 1.0', [0, 1, 4]),
                             ('file f 1; task a; map a 0 1 common f 0 r; cut f 0; cut f 1; show a 0.0',
                              [0, 1, 2, 3, 4, 5]),
                             ('file f 1; file g 1; cut f 0; task a; map a 0 1 common f 0 r; show a 0.0', [5]),
                             ('task a; fork a b; map b 0 1 zero rw; put b 0.0 = x; show b 0.0; end a',
                              [0, 1, 2, 3, 4])):
            self.judge(told(text), places)

    def test_last_steps_are_tried_first(self):
        # Either of two tasks is enough, and the later one goes.
        self.judge(told('task a; task a; map a 0 1 zero r; show a 0.0'), [0, 2, 3])
        # Without the end the steps ahead of it are enough, too; but those behind it have stayed by then.
        self.judge(told('task a; map a 0 1 zero rw; put a 0.0 = x; end a; task a; map a 0 1 zero rw; '
                        'put a 0.0 = x; show a 0.0'), [4, 5, 6, 7])
        # The last put goes in the second turn only, when the one ahead of it is away.
        self.judge(told('task a; map a 0 1 zero rw; put a 0.0 = 5; put a 0.0 = 0; show a 0.0'), [0, 1, 4])

    def test_against_the_model(self):
        for seed in range(250):
            maker = Maker(seed, 2, 1 + seed % 2)
            script = Script(2, 1 + seed % 2, maker.steps(4 + seed % 12))
            self.judge(script, needed_of(script, lambda places, one=script: at_places(one, places)))

    def test_values_that_hide_a_step(self):
        # Without the put in question the show differs for few values only.
        factor = 2 ** 200
        steps = [('task', 'a'), ('map', 'a', 0, 1, ('zero',), 'rw'), ('put', 'a', 0, 0, (('input', 'x', factor),)),
                 ('put', 'a', 0, 0, (('cell', 'a', 0, 0, 1), ('input', 'y', factor))), ('show', 'a', 0, 0)]
        self.judge(Script(1, 1, steps), [0, 1, 2, 3, 4])
        prime = 2 ** 61 - 1
        steps[2:4] = [('put', 'a', 0, 0, (('input', 'x', prime),))]
        self.judge(Script(1, 1, steps), [0, 1, 2, 3])

    def test_bent_evidence(self):
        script = told(EXAMPLE)
        found = needed(script)
        for places in ([], [0, 1, 2], [0, 1, 2, 3, 4], [0, 1, 3, 4], [4, 2, 1, 0], [0, 1, 2, 5], [0, 1, 2, -1]):
            self.assertIs(Needed(places, found.reasons).shows(script), False)
        self.assertIs(Needed(found.places, found.reasons[:-1]).shows(script), False)
        self.assertIs(Needed(found.places, found.reasons + found.reasons[:1]).shows(script), False)
        for at, reason in enumerate(found.reasons):
            for other in (Unlike(reason.given, reason.place + 1), Unlike(reason.given, -1)):
                bent = Needed(found.places, found.reasons)
                bent.reasons[at] = other
                self.assertIs(bent.shows(script), False)
        for other in (None, 5, ({X: 1}, 0), Unlike(None, 0), Unlike({X: True}, 0)):
            bent = Needed(found.places, found.reasons[:2] + [other] + found.reasons[3:])
            self.assertIs(bent.shows(script), False)
        bent = Needed(found.places, found.reasons)
        bent.reasons[2] = Unlike({X: 0}, 0)
        self.assertIs(bent.shows(script), False)
        bent.reasons[2] = Unlike({X: -7}, 0)
        self.assertIs(bent.shows(script), True)
        self.assertIs(found.shows(told(EXAMPLE + '; show a 0.0')), False)

    def test_as_evidence(self):
        reason = Unlike({X: 1}, 0)
        reasons = [reason]
        one = Needed((3, 4), reasons)
        reasons.append(reason)
        reason.place = 9
        reason.given[X] = 9
        self.assertEqual((one.places, one.reasons), ([3, 4], [Unlike({X: 1}, 0)]))
        self.assertEqual(one, Needed([3, 4], (Unlike({X: 1}, 0),)))
        for other in (Needed([3], one.reasons), Needed([3, 4], []), None):
            self.assertNotEqual(one, other)

    def test_long_scripts(self):
        start = time.monotonic()
        maker = Maker(1, 4, 2)
        self.judge(Script(4, 2, maker.steps(300)))
        steps = [('task', 'a'), ('map', 'a', 0, 4, ('zero',), 'rw')]
        steps += [('put', 'a', k % 4, k % 2, tuple(('cell', 'a', (k + i) % 4, i % 2, i + 1) for i in range(7))
                   + (('input', 'abcdefgh'[k % 8], 1),)) for k in range(297)]
        self.assertGreater(len(self.judge(Script(4, 2, steps + [('show', 'a', 0, 0)])).places), 200)
        self.judge(Script(64, 4, [('show', 'a', 0, 0)] * 300), list(range(300)))
        self.judge(Script(64, 4, [('task', 'a')] * 300), [])
        self.assertLess(time.monotonic() - start, 120)

    def test_no_script(self):
        for call in (needed, Needed([], []).shows):
            for wrong in (None, 5, [], 'space 1 leaves 1 cells'):
                with self.assertRaises(BadScript) as caught:
                    call(wrong)
                self.assertIsNone(caught.exception.place)


class ExchangeTest(unittest.TestCase):

    def test_example(self):
        self.assertIs(may_exchange(told(EXAMPLE), 2), True)
        self.assertIs(may_exchange(told(EXAMPLE), 1), False)

    def test_pairs(self):
        front = 'task a; map a 0 2 zero rw; put a 0.0 = x; '
        for pair, may in (('show a 0.0; show a 1.0', False), ('show a 1.0; show a 1.0', True),
                          ('show a 1.0; put a 0.0 = 1', True), ('show a 0.0; put a 0.0 = 1', False),
                          ('show a 0.0; put a 0.0 = x', True), ('put a 0.0 = 1; put a 0.0 = 2', False),
                          ('put a 0.0 = 1; put a 0.0 = 1', True), ('put a 0.0 = a 1.0; put a 1.0 = 2', False),
                          ('put a 0.0 = a 0.0 + 1; put a 0.0 = a 0.0 - 4', True), ('task b; task b', True),
                          ('task b; end b', False), ('end b; end c', True), ('fork a b; put a 0.0 = 2', False),
                          ('fork a b; fork a c', True), ('fork a b; fork b c', False), ('file f 1; cut f 1', True),
                          ('file f 1; cut f 2', False), ('guard a 0 1 r; guard a 1 1 r', True),
                          ('guard a 0 1 r; guard a 0 1 rw', False), ('show b 0.0; show a 3.0', True)):
            self.assertIs(may_exchange(told(front + pair), 3), may, pair)
            self.assertIs(may_exchange(told(front + pair + '; end a; end a'), 3), may, pair)

    def test_against_the_model(self):
        count = 0
        for seed in range(200):
            maker = Maker(seed, 2, 1 + seed % 2)
            script = Script(2, 1 + seed % 2, maker.steps(20))
            for place in range(19):
                front, one, other = script.part(0, place), script.steps[place], script.steps[place + 1]
                first, second = front + [one, other], front + [other, one]
                may = seen_of(first) == seen_of(second) and \
                    standing_of(worlds_of(first)[0][-1]) == standing_of(worlds_of(second)[0][-1])
                self.assertIs(may_exchange(script, place), may)
                count += may
        self.assertGreater(count, 1000)

    def test_wrong_places(self):
        script = told(EXAMPLE)
        self.assertIs(may_exchange(script, 3), True)
        for place in (-1, 4, 5, 10 ** 20, None, '1', True, False, 1.0, (1,)):
            with self.assertRaises(BadPlace):
                may_exchange(script, place)
        for text in ('', 'task a'):
            with self.assertRaises(BadPlace):
                may_exchange(told(text), 0)

    def test_no_script(self):
        for wrong in (None, 5, [], 'space 1 leaves 1 cells'):
            with self.assertRaises(BadScript) as caught:
                may_exchange(wrong, -1)
            self.assertIsNone(caught.exception.place)


if __name__ == '__main__':
    unittest.main()
