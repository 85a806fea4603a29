"""The machine with a store: [19]."""

import time
import unittest

from tests.model import Maker, seen_of
from tests.model_more import stored_of
from twinleaves.errors import BadNumber, BadScript
from twinleaves.reading import read_script
from twinleaves.scripts import Script
from twinleaves.storing import stored

FRONT = 'task a; map a 0 3 zero rw; put a 0.0 = 1; put a 1.0 = 2; put a 2.0 = 3; '


def told(text, leaves=4, cells=1):
    return read_script(f'space {leaves} leaves {cells} cells\n' + text.replace('; ', '\n'))


class StoringTest(unittest.TestCase):

    def judge(self, text, room, rule, touched, ins, outs):
        found = stored(told(text), room, rule)
        self.assertEqual((found.touched, found.ins, found.outs), (touched, ins, outs), (text, room, rule))
        self.assertEqual(found.seen, seen_of(told(text)))

    def both(self, text, room, touched, ins, outs):
        for rule in ('oldest', 'idle'):
            self.judge(text, room, rule, touched, ins, outs)

    def test_example(self):
        text = 'task a; map a 0 2 zero rw; put a 0.0 = 1; put a 1.0 = 2; show a 0.0; show a 1.0'
        self.both(text, 1, [0, 1, 0, 1], 2, 3)
        self.both(text, 2, [0, 1, 0, 1], 0, 0)
        self.both(text, 10 ** 30, [0, 1, 0, 1], 0, 0)

    def test_rules(self):
        # Frame 0 came in first, and frame 1 was touched first.
        text = FRONT + 'unmap a 2 1; map a 2 1 zero rw; show a 0.0; put a 2.0 = 3; show a 0.0'
        self.judge(text, 2, 'idle', [0, 1, 2, 0, 3, 0], 1, 2)
        self.judge(text, 2, 'oldest', [0, 1, 2, 0, 3, 0], 1, 2)
        text = 'task a; map a 0 3 zero rw; put a 0.0 = 1; put a 1.0 = 2; show a 0.0; put a 2.0 = 3; show a 0.0'
        self.judge(text, 2, 'idle', [0, 1, 0, 2, 0], 0, 1)
        self.judge(text, 2, 'oldest', [0, 1, 0, 2, 0], 1, 2)
        # One that came in again is not the oldest one any more.
        text = text + '; show a 1.0; show a 0.0; show a 2.0'
        self.judge(text, 2, 'oldest', [0, 1, 0, 2, 0, 1, 0, 2], 3, 4)
        self.judge(text, 2, 'idle', [0, 1, 0, 2, 0, 1, 0, 2], 2, 3)

    def test_what_a_put_touches(self):
        self.both(FRONT + 'put a 0.0 = a 2.0 + a 1.0 + 0 a 2.0 + x + 5', 9, [0, 1, 2, 2, 1, 2, 0], 0, 0)
        self.both(FRONT + 'put a 0.0 = a 0.0 + a 0.0 - a 0.0', 9, [0, 1, 2, 0, 0, 0, 0], 0, 0)
        self.both(FRONT + 'put a 3.0 = a 0.0; put a 0.0 = a 3.0; show a 3.0; show b 0.0', 9, [0, 1, 2], 0, 0)
        self.both('task a; map a 0 2 zero rw; put a 0.0 = a 1.0 + a 0.0; show a 1.0; put a 1.0 = a 0.0', 9, [0, 0, 1], 0, 0)

    def test_copied_frames(self):
        # The one that was held together is touched, then the new one; then each task has its own.
        self.both('task a; map a 0 1 zero rw; put a 0.0 = 1; fork a b; put b 0.0 = a 0.0; show a 0.0; show b 0.0', 9,
                  [0, 0, 0, 1, 0, 1], 0, 0)
        self.both('task a; map a 0 1 zero rw; put a 0.0 = 1; fork a b; put b 0.0 = a 0.0; show a 0.0; show b 0.0', 1,
                  [0, 0, 0, 1, 0, 1], 2, 3)
        self.both('task a; map a 0 1 zero rw; fork a b; put b 0.0 = 1; show a 0.0; show b 0.0', 9, [0, 0], 0, 0)

    def test_leaves_of_files(self):
        front = 'file f 2; task a; map a 0 1 apart f 0 rw; map a 1 1 common f 1 rw; show a 0.0; show a 1.0; '
        self.both(front + 'put a 1.0 = a 0.0', 9, [], 0, 0)
        self.both(front + 'put a 0.0 = a 0.0 + a 1.0; show a 0.0; put a 1.0 = a 0.0; put a 0.0 = 2', 9, [0, 0, 0, 0], 0, 0)

    def test_frames_that_are_gone(self):
        # Frame 0 is in neither, so that the others find room.
        self.both(FRONT.replace('put a 2.0 = 3; ', 'unmap a 0 1; ') + 'put a 2.0 = 3; show a 1.0', 2, [0, 1, 2, 1], 0, 0)
        self.both(FRONT + 'end a; task a; map a 0 2 zero rw; put a 0.0 = 1; put a 1.0 = 2; show a 0.0', 2,
                  [0, 1, 2, 3, 4, 3], 0, 1)
        self.both(FRONT + 'unmap a 1 2; show a 0.0', 1, [0, 1, 2, 0], 1, 2)
        # What one task drops, another one still holds.
        self.both('task a; map a 0 2 zero rw; put a 0.0 = 1; fork a b; unmap a 0 1; put a 1.0 = 2; show b 0.0', 1,
                  [0, 1, 0], 1, 2)
        self.both('task a; map a 0 2 zero rw; put a 0.0 = 1; fork a b; end a; put b 1.0 = 2; show b 0.0; put b 0.0 = 7', 1,
                  [0, 1, 0, 0], 1, 2)

    def test_moves(self):
        self.both('task a; map a 0 1 zero rw; put a 0.0 = 1; move a 0 1 to 3; show a 3.0; map a 0 1 zero rw; show a 0.0', 1,
                  [0, 0], 0, 0)

    def test_refused_steps_touch_nothing(self):
        self.both(FRONT + 'guard a 0 1 r; put a 0.0 = a 1.0; show a 0.5; put a 1.0 = a 0.0 + a 3.0; show c 0.0', 1,
                  [0, 1, 2], 0, 2)

    def test_against_the_model(self):
        gone = 0
        for seed in range(500):
            maker = Maker(seed, 1 + seed % 4, 1 + seed % 2)
            kinds = ['put', 'show', 'fork', 'put', 'end', 'map', 'show', 'put', 'move', 'unmap', 'task', 'file'][:5 + seed % 8]
            steps = maker.steps(seed % 60, kinds)
            if seed % 2:
                # Leaves that are zero at first, which all get frames.
                steps = [('task', 'a'), ('map', 'a', 0, maker.leaves, ('zero',), 'rw'), ('fork', 'a', 'b')] + steps[3:]
            script = Script(maker.leaves, maker.cells, steps)
            for room in (1, 2, 3, 5):
                for rule in ('oldest', 'idle'):
                    found = stored(script, room, rule)
                    self.assertEqual((found.seen, found.touched, found.ins, found.outs), stored_of(script, room, rule))
                    gone += found.ins > 0
        self.assertGreater(gone, 100)

    def test_answers(self):
        script = told(FRONT + 'show a 0.0')
        one = stored(script, 1, 'idle')
        self.assertEqual(one, stored(script, 1, 'idle'))
        self.assertNotEqual(one, stored(script, 2, 'idle'))
        self.assertNotEqual(one, None)
        one.touched.append(5)
        one.seen.append(5)
        self.assertEqual(stored(script, 1, 'idle').touched, [0, 1, 2, 0])
        for name, other in (('seen', []), ('touched', [1]), ('ins', 7), ('outs', 7)):
            bent = stored(script, 1, 'idle')
            setattr(bent, name, other)
            self.assertNotEqual(bent, stored(script, 1, 'idle'))
        found = stored(told(''), 1, 'oldest')
        self.assertEqual((found.seen, found.touched, found.ins, found.outs), ([], [], 0, 0))

    def test_wrong_numbers(self):
        script = told('task a')
        for room in (0, -1, True, 1.0, '1', None, [1]):
            with self.assertRaises(BadNumber):
                stored(script, room, 'idle')
        for rule in ('', 'newest', 'IDLE', None, 5, ['idle'], ('idle',), {}):
            with self.assertRaises(BadNumber):
                stored(script, 1, rule)
        for wrong in (None, 5, [], 'space 1 leaves 1 cells'):
            with self.assertRaises(BadScript) as caught:
                stored(wrong, 0, None)
            self.assertIsNone(caught.exception.place)

    def test_long_script(self):
        start = time.monotonic()
        steps = [('task', 'a'), ('map', 'a', 0, 64, ('zero',), 'rw')]
        steps += [('put', 'a', at % 64, 0, (('cell', 'a', at * 7 % 64, 0, 2), ('number', 1))) for at in range(298)]
        found = stored(Script(64, 4, steps), 30, 'idle')
        self.assertGreater(found.outs, 100)
        self.assertLess(time.monotonic() - start, 20)


if __name__ == '__main__':
    unittest.main()
