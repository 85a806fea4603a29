"""The examples of the document, as they stand in its interface."""

import doctest
import unittest

EXAMPLES = r"""
>>> from twinleaves.scripts import Script, is_step
>>> told = Script(4, 1, [('task', 'a'), ('show', 'a', 0, 0)])
>>> [is_step(('map', 'a', 0, 2, ('apart', 'f', 62), 'r')), is_step(('map', 'a', 0, 2, ('apart', 'f', 63), 'r')), len(told), told.steps]
[True, False, 2, (('task', 'a'), ('show', 'a', 0, 0))]

>>> from twinleaves.reading import read_script
>>> from twinleaves.writing import write_script
>>> told = read_script('space 8 leaves 2 cells\ntask a\nmap a 0 2 zero rw\nput a 0.1=x+2 a 1.0-3')
>>> [told.steps[1], told.steps[2], write_script(told).split('\n')[3]]
[('map', 'a', 0, 2, ('zero',), 'rw'), ('put', 'a', 0, 1, (('input', 'x', 1), ('cell', 'a', 1, 0, 2), ('number', -3))), 'put a 0.1 = x + 2 a 1.0 - 3']

>>> from twinleaves.reading import read_script
>>> from twinleaves.runs import inputs_of, run, shown
>>> told = read_script('space 4 leaves 1 cells\nfile f 1\ntask a\nmap a 0 1 apart f 0 rw\nfork a b\nput a 0.0 = 2 b 0.0 + x\nshow a 0.0\nshow b 0.0\nshow b 1.0')
>>> [run(told).seen[0], run(told).refused, shown(told, {('input', 'x'): 5, ('file', 'f', 0, 0): 10}), inputs_of(told)[1]]
[(0, ((('file', 'f', 0, 0), 2), (('input', 'x'), 1))), [7], [25, 10, None], [('file', 'f', 0, 0)]]

>>> from twinleaves.alikes import unlike
>>> from twinleaves.goings import parting
>>> from twinleaves.reading import read_script
>>> head = 'space 4 leaves 1 cells\ntask a\nmap a 0 2 zero rw\nput a 0.0 = x\n'
>>> one, other = read_script(head + 'show a 0.0'), read_script(head + 'put a 1.0 = 1\nshow a 0.0')
>>> [unlike(one, other), parting(one, other) is None, unlike(one, read_script(head + 'show a 1.0')).place]
[None, False, 0]

>>> from twinleaves.anew import anew
>>> from twinleaves.goings import parting
>>> from twinleaves.reading import read_script
>>> told = read_script('space 4 leaves 1 cells\nfile f 2\ntask a\nmap a 0 2 common f 0 rw\nput a 0.0 = a 1.0\nfork a b\ncut f 1')
>>> parting(anew(told), told) is None
True

>>> from twinleaves.needs import may_exchange, needed
>>> from twinleaves.reading import read_script
>>> told = read_script('space 4 leaves 1 cells\ntask a\nmap a 0 2 zero rw\nput a 0.0 = x\nput a 1.0 = 3\nshow a 0.0')
>>> [needed(told).places, may_exchange(told, 2), may_exchange(told, 1)]
[[0, 1, 2, 4], True, False]

>>> from twinleaves.copies import least_copies
>>> from twinleaves.lazy import lazily
>>> from twinleaves.reading import read_script
>>> told = read_script('space 4 leaves 2 cells\ntask a\nmap a 0 1 zero rw\nput a 0.0 = x\nfork a b\nfork a c\nput b 0.1 = 7\nput c 0.1 = 7\nshow a 0.0\nshow b 0.0\nshow c 0.0')
>>> [lazily(told).frames, lazily(told).copies, len(least_copies(told).plan)]
[[0, 0, 1, 1, 1, 2, 3, 3, 3, 3], 2, 1]
"""


class ExamplesTest(unittest.TestCase):

    def test_examples(self):
        for number, told in enumerate(EXAMPLES.strip().split('\n\n')):
            test = doctest.DocTestParser().get_doctest(told + '\n', {}, f'example {number}', None, None)
            result = doctest.DocTestRunner().run(test)
            self.assertEqual(result.failed, 0, told)
            self.assertGreater(result.attempted, 2)


if __name__ == '__main__':
    unittest.main()
