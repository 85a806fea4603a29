"""The lazy machine: [7]."""

import unittest

from tests.model import Maker, lazily_of, refused_of
from twinleaves.errors import BadNumber, BadScript
from twinleaves.lazy import lazily, least_limit
from twinleaves.reading import read_script
from twinleaves.runs import run
from twinleaves.scripts import Script


def told(text, leaves=4, cells=1):
    return read_script(f'space {leaves} leaves {cells} cells\n' + text.replace('; ', '\n'))


class LazyTest(unittest.TestCase):

    def judge(self, text, frames, fresh, copies, limit=None):
        found = lazily(told(text), limit)
        self.assertEqual((found.frames, found.fresh, found.copies), (frames, fresh, copies), text)
        self.assertEqual(found.greatest, max(frames))
        return found

    def test_example(self):
        script = told('task a; map a 0 1 zero rw; put a 0.0 = x; fork a b; fork a c; put b 0.1 = 7; put c 0.1 = 7; '
                      'show a 0.0; show b 0.0; show c 0.0', 4, 2)
        self.assertEqual((lazily(script).frames, lazily(script).copies), ([0, 0, 1, 1, 1, 2, 3, 3, 3, 3], 2))
        self.assertEqual((lazily(script).fresh, lazily(script).greatest), (1, 3))

    def test_frames(self):
        front = 'task a; map a 0 2 zero rw; '
        self.judge(front + 'put a 0.0 = 1; put a 0.0 = 2; put a 1.0 = 0', [0, 0, 1, 1, 2], 2, 0)
        self.judge(front + 'put a 0.0 = 1; unmap a 0 1; unmap a 0 4', [0, 0, 1, 0, 0], 1, 0)
        self.judge(front + 'put a 0.0 = 1; fork a b; end a; put b 0.0 = 2; end b', [0, 0, 1, 1, 1, 1, 0], 1, 0)
        self.judge(front + 'put a 0.0 = 1; fork a b; put b 0.0 = 2; put a 0.0 = 2', [0, 0, 1, 1, 2, 2], 1, 1)
        self.judge(front + 'fork a b; put b 0.0 = 2; put a 0.0 = 2', [0, 0, 0, 1, 2], 2, 0)
        self.judge(front + 'put a 0.0 = 1; move a 0 1 to 3; put a 3.0 = 1; fork a b; move a 3 1 to 0; put a 0.0 = 1',
                   [0, 0, 1, 1, 1, 1, 1, 2], 1, 1)
        self.judge(front + 'put a 0.0 = 1; end a; task a; map a 0 1 zero rw; put a 0.0 = 1', [0, 0, 1, 0, 0, 0, 1], 2, 0)
        self.judge(front + 'put a 0.0 = 1; guard a 0 1 r; put a 0.0 = 1; put a 3.0 = 1; put b 0.0 = 1',
                   [0, 0, 1, 1, 1, 1, 1], 1, 0)

    def test_leaves_of_files(self):
        front = 'file f 2; task a; map a 0 1 apart f 0 rw; map a 1 1 common f 1 rw; map a 2 1 apart f 2 rw; '
        self.judge(front + 'put a 0.0 = 1; put a 0.0 = 1; put a 1.0 = 1; put a 2.0 = 1', [0] * 5 + [1] * 4, 0, 1)
        self.judge(front + 'fork a b; put b 0.0 = 1; put b 1.0 = 1; put a 0.0 = 1', [0] * 6 + [1, 1, 2], 0, 2)

    def test_limits(self):
        text = 'task a; map a 0 2 zero rw; put a 0.0 = 1; fork a b; put b 0.0 = 2; put a 1.0 = 3; show b 0.0; show a 1.0'
        self.assertEqual(lazily(told(text), 3).refused, [])
        found = self.judge(text, [0, 0, 1, 1, 2, 2, 2, 2], 1, 1, 2)
        self.assertEqual((found.refused, found.seen), ([5], [(2, ()), (0, ())]))
        found = self.judge(text, [0, 0, 1, 1, 1, 1, 1, 1], 1, 0, 1)
        self.assertEqual((found.refused, found.seen), ([4, 5], [(1, ()), (0, ())]))
        found = self.judge(text, [0] * 8, 0, 0, 0)
        self.assertEqual((found.refused, found.seen), ([2, 4, 5], [(0, ()), (0, ())]))
        self.assertEqual(least_limit(told(text)), 3)

    def test_puts_that_need_no_frame(self):
        text = 'file f 1; task a; map a 0 1 common f 0 rw; put a 0.0 = 1; show a 0.0'
        found = lazily(told(text), 0)
        self.assertEqual((found.refused, found.seen, least_limit(told(text))), ([], [(1, ())], 0))
        text = 'task a; map a 0 1 zero rw; put a 0.0 = 1; put a 0.0 = 2; fork a b; unmap a 0 1; put b 0.0 = 3'
        self.assertEqual((lazily(told(text), 1).refused, least_limit(told(text))), ([], 1))

    def test_against_the_model(self):
        for seed in range(500):
            maker = Maker(seed, 1 + seed % 3, 1 + seed % 2)
            script = Script(maker.leaves, maker.cells, maker.steps(seed % 45, ['put', 'fork', 'end', 'map', 'show', 'put',
                                                                               'put', 'move', 'unmap', 'task'][:6 + seed % 5]))
            least = least_limit(script)
            for limit in (None, 0, 1, 2, least, max(0, least - 1), 10 ** 20):
                found = lazily(script, limit)
                self.assertEqual((found.seen, found.refused, found.frames, found.fresh, found.copies),
                                 lazily_of(script, limit), (seed, limit))
                self.assertEqual(found.greatest, max(found.frames, default=0))
            self.assertEqual(lazily(script).refused, refused_of(script))
            self.assertEqual(lazily(script, least).refused, refused_of(script))
            if least > 0:
                self.assertNotEqual(lazily(script, least - 1).refused, refused_of(script))

    def test_without_steps(self):
        found = lazily(Script(1, 1, []))
        self.assertEqual((found.seen, found.refused, found.frames, found.greatest, found.fresh, found.copies),
                         ([], [], [], 0, 0, 0))
        self.assertEqual(least_limit(Script(1, 1, [])), 0)

    def test_long_script(self):
        names = [a + b for a in 'abcdef' for b in 'abcdefghijklmnopqrstuvwxyz']
        steps = [('task', 'z'), ('map', 'z', 0, 64, ('zero',), 'rw'), ('put', 'z', 5, 0, (('number', 1),))]
        steps += [('fork', 'z', name) for name in names[:148]]
        steps += [('put', name, 5, 0, (('number', 1),)) for name in names[:148]] + [('put', 'z', 5, 0, (('number', 1),))]
        script = Script(64, 4, steps)
        self.assertEqual((len(script), lazily(script).copies, least_limit(script)), (300, 148, 149))
        self.assertEqual(lazily(script, 148).refused, [298, 299])

    def test_answers(self):
        script = told('task a; map a 0 1 zero rw; put a 0.0 = 1; show a 0.0')
        self.assertEqual(lazily(script), lazily(script, None))
        self.assertNotEqual(lazily(script), lazily(script, 0))
        self.assertNotEqual(lazily(script), None)
        for name, other in (('seen', []), ('refused', [0]), ('frames', [0]), ('greatest', 2), ('fresh', 2), ('copies', 1)):
            bent = lazily(script)
            setattr(bent, name, other)
            self.assertFalse(bent == lazily(script))
        lazily(script).frames.append(5)
        self.assertEqual(lazily(script).frames, [0, 0, 1, 1])
        self.assertEqual(lazily(script).seen, run(script).seen)

    def test_wrong_limits(self):
        for limit in (-1, True, False, 1.0, '1', (1,)):
            with self.assertRaises(BadNumber):
                lazily(told('task a'), limit)

    def test_no_script(self):
        for call in (lazily, least_limit, lambda one: lazily(one, -1)):
            for wrong in (None, 5, [], 'space 1 leaves 1 cells'):
                with self.assertRaises(BadScript) as caught:
                    call(wrong)
                self.assertIsNone(caught.exception.place)


if __name__ == '__main__':
    unittest.main()
