"""How scripts are written, and that they are read back: [3]."""

import random
import unittest

from tests.model import Maker
from tests.test_scripts import GOOD
from twinleaves.errors import BadScript
from twinleaves.reading import read_script
from twinleaves.scripts import Script
from twinleaves.writing import write_script

ROWS = [
    (('task', 'a'), 'task a'), (('end', 'ab'), 'end ab'), (('fork', 'a', 'b'), 'fork a b'),
    (('file', 'f', 0), 'file f 0'), (('cut', 'f', 64), 'cut f 64'),
    (('map', 'a', 0, 2, ('zero',), 'rw'), 'map a 0 2 zero rw'),
    (('map', 'a', 9, 1, ('apart', 'f', 3), 'r'), 'map a 9 1 apart f 3 r'),
    (('map', 'a', 9, 1, ('common', 'f', 63), 'r'), 'map a 9 1 common f 63 r'),
    (('unmap', 'a', 1, 2), 'unmap a 1 2'), (('guard', 'a', 1, 2, 'r'), 'guard a 1 2 r'),
    (('move', 'a', 1, 2, 5), 'move a 1 2 to 5'), (('show', 'a', 3, 1), 'show a 3.1'),
    (('put', 'a', 0, 1, (('number', 0),)), 'put a 0.1 = 0'),
    (('put', 'a', 0, 1, (('number', -3), ('number', -4), ('number', 5))), 'put a 0.1 = - 3 - 4 + 5'),
    (('put', 'a', 0, 1, (('input', 'x', 1), ('cell', 'b', 1, 0, 1))), 'put a 0.1 = x + b 1.0'),
    (('put', 'a', 0, 1, (('input', 'x', -1), ('cell', 'b', 1, 0, -1))), 'put a 0.1 = - x - b 1.0'),
    (('put', 'a', 0, 1, (('input', 'x', 2), ('cell', 'b', 1, 0, -3))), 'put a 0.1 = 2 x - 3 b 1.0'),
    (('put', 'a', 0, 1, (('input', 'x', 0), ('cell', 'b', 1, 0, 0))), 'put a 0.1 = 0 x + 0 b 1.0'),
    (('put', 'a', 0, 1, (('number', 1), ('number', -1))), 'put a 0.1 = 1 - 1'),
]


class WritingTest(unittest.TestCase):

    def test_rows(self):
        for step, row in ROWS:
            self.assertEqual(write_script(Script(8, 2, [step])), 'space 8 leaves 2 cells\n' + row + '\n')
        whole = Script(64, 4, [step for step, _ in ROWS])
        self.assertEqual(write_script(whole), ''.join(row + '\n' for row in
                                                      ['space 64 leaves 4 cells'] + [row for _, row in ROWS]))

    def test_without_steps(self):
        self.assertEqual(write_script(Script(1, 1, [])), 'space 1 leaves 1 cells\n')

    def test_read_back(self):
        for script in (Script(64, 4, GOOD), Script(8, 2, [step for step, _ in ROWS])):
            self.assertEqual(read_script(write_script(script)), script)
        for seed in range(300):
            maker = Maker(seed, 1 + seed % 64, 1 + seed % 4, tasks=['a', 'to', 'zero', 'abcdefgh'])
            script = Script(maker.leaves, maker.cells, [rich(maker, step) for step in maker.steps(seed)])
            text = write_script(script)
            self.assertEqual(read_script(text), script)
            self.assertEqual(write_script(read_script(text)), text)
            self.assertNotIn('  ', text)

    def test_large_numbers(self):
        number = int('7' * 1000)
        script = Script(8, 2, [('put', 'a', 0, 0, (('number', -number), ('input', 'x', number)))])
        self.assertEqual(read_script(write_script(script)), script)

    def test_no_script(self):
        for told in (None, 5, 'space 8 leaves 2 cells', [], ('task', 'a')):
            with self.assertRaises(BadScript) as caught:
                write_script(told)
            self.assertIsNone(caught.exception.place)


def rich(maker, step):
    """The step, or a put with a long total and large factors in its place."""
    if step[0] != 'put':
        return step
    dice = random.Random(str(step))
    total = tuple(term[:-1] + (dice.choice([term[-1], 10 ** 20, -10 ** 20]),) for term in maker.total(8))
    return step[:4] + (total,)


if __name__ == '__main__':
    unittest.main()
