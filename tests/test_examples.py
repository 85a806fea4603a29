"""The examples of the document, as they stand in its interface."""

import doctest
import unittest

EXAMPLES = r"""
>>> from twinleaves.scripts import Script, is_step
>>> told = Script(4, 1, [('task', 'a'), ('show', 'a', 0, 0)])
>>> [is_step(('map', 'a', 0, 2, ('apart', 'f', 62), 'r')), is_step(('map', 'a', 0, 2, ('apart', 'f', 63), 'r')), len(told), told.steps]
[True, False, 2, (('task', 'a'), ('show', 'a', 0, 0))]

>>> from twinleaves.reading import read_script
>>> from twinleaves.writing import write_script
>>> told = read_script('space 8 leaves 2 cells\ntask a\nmap a 0 2 zero rw\nput a 0.1=x+2 a 1.0-3')
>>> [told.steps[1], told.steps[2], write_script(told).split('\n')[3]]
[('map', 'a', 0, 2, ('zero',), 'rw'), ('put', 'a', 0, 1, (('input', 'x', 1), ('cell', 'a', 1, 0, 2), ('number', -3))), 'put a 0.1 = x + 2 a 1.0 - 3']

>>> from twinleaves.reading import read_script
>>> from twinleaves.runs import inputs_of, run, shown
>>> told = read_script('space 4 leaves 1 cells\nfile f 1\ntask a\nmap a 0 1 apart f 0 rw\nfork a b\nput a 0.0 = 2 b 0.0 + x\nshow a 0.0\nshow b 0.0\nshow b 1.0')
>>> [run(told).seen[0], run(told).refused, shown(told, {('input', 'x'): 5, ('file', 'f', 0, 0): 10}), inputs_of(told)[1]]
[(0, ((('file', 'f', 0, 0), 2), (('input', 'x'), 1))), [7], [25, 10, None], [('file', 'f', 0, 0)]]

>>> from twinleaves.alikes import unlike
>>> from twinleaves.goings import parting
>>> from twinleaves.reading import read_script
>>> head = 'space 4 leaves 1 cells\ntask a\nmap a 0 2 zero rw\nput a 0.0 = x\n'
>>> one, other = read_script(head + 'show a 0.0'), read_script(head + 'put a 1.0 = 1\nshow a 0.0')
>>> [unlike(one, other), parting(one, other) is None, unlike(one, read_script(head + 'show a 1.0')).place]
[None, False, 0]

>>> from twinleaves.anew import anew
>>> from twinleaves.goings import parting
>>> from twinleaves.reading import read_script
>>> told = read_script('space 4 leaves 1 cells\nfile f 2\ntask a\nmap a 0 2 common f 0 rw\nput a 0.0 = a 1.0\nfork a b\ncut f 1')
>>> parting(anew(told), told) is None
True

>>> from twinleaves.needs import may_exchange, needed
>>> from twinleaves.reading import read_script
>>> told = read_script('space 4 leaves 1 cells\ntask a\nmap a 0 2 zero rw\nput a 0.0 = x\nput a 1.0 = 3\nshow a 0.0')
>>> [needed(told).places, may_exchange(told, 2), may_exchange(told, 1)]
[[0, 1, 2, 4], True, False]

>>> from twinleaves.copies import least_copies
>>> from twinleaves.frames import least_frames
>>> from twinleaves.lazy import lazily
>>> from twinleaves.reading import read_script
>>> told = read_script('space 4 leaves 2 cells\ntask a\nmap a 0 1 zero rw\nput a 0.0 = x\nfork a b\nfork a c\nput b 0.1 = 7\nput c 0.1 = 7\nshow a 0.0\nshow b 0.0\nshow c 0.0')
>>> [lazily(told).frames, lazily(told).copies, len(least_copies(told).plan), least_frames(told).number]
[[0, 0, 1, 1, 1, 2, 3, 3, 3, 3], 2, 1, 2]

>>> from twinleaves.reading import read_script
>>> from twinleaves.shelves import books, most_books
>>> told = read_script('space 8 leaves 1 cells\ntask a\nmap a 0 3 zero r\nfork a b\nunmap b 0 2')
>>> [books(told, 2, 3), most_books(told, 2, 3)]
[{'a': [1, 1, 2], 'b': [1, 1, 1]}, 8]

>>> from twinleaves.desks import Desk
>>> desk = Desk(4, 1)
>>> first = [desk.step(('task', 'a')), desk.step(('task', 'a')), desk.step(('map', 'a', 1, 2, ('zero',), 'r'))]
>>> [first, desk.step(('show', 'a', 1, 0)), desk.trial(lambda one: one.step(('end', 'a'))), desk.mapped('a')]
[[True, False, True], (0, ()), True, [1, 2]]

>>> from twinleaves.desks import Desk
>>> desk = Desk(4, 1, most=2)
>>> first = [desk.step(('task', 'a')), desk.step(('map', 'a', 0, 3, ('zero',), 'rw'))]
>>> second = desk.together(('map', 'a', 0, 2, ('zero',), 'rw'), ('put', 'a', 0, 0, (('number', 7),)))
>>> [first, second, desk.cell('a', 0, 0), desk.most, 'a' in desk, len(desk)]
[[True, False], [True, True], (7, ()), 2, True, 4]

>>> from twinleaves.turns import Turning, unlike_turns
>>> ahead = [('task', 'a'), ('map', 'a', 0, 2, ('zero',), 'rw')]
>>> one = Turning(2, 1, ahead, [('put', 'a', 0, 0, (('cell', 'a', 0, 0, 1), ('number', 1)))], [('show', 'a', 0, 0)])
>>> two = Turning(2, 1, ahead, [('put', 'a', 0, 0, (('cell', 'a', 0, 0, 2), ('number', 1)))], [('show', 'a', 0, 0)])
>>> [unlike_turns(one, one), unlike_turns(one, two).many, unlike_turns(one, two).place]
[None, 2, 0]

>>> from twinleaves.reading import read_script
>>> from twinleaves.telling import Hides, tells
>>> told = read_script('space 4 leaves 1 cells\ntask a\nmap a 0 1 zero rw\nput a 0.0 = x + y\nshow a 0.0\nput a 0.0 = x - y\nshow a 0.0')
>>> [tells(told, ('input', 'x'), [0, 1]).factors, isinstance(tells(told, ('input', 'x'), [0]), Hides)]
[[(1, 2), (1, 2)], True]

>>> from twinleaves.reading import read_script
>>> from twinleaves.storing import stored
>>> told = read_script('space 4 leaves 1 cells\ntask a\nmap a 0 2 zero rw\nput a 0.0 = 1\nput a 1.0 = 2\nshow a 0.0\nshow a 1.0')
>>> found = stored(told, 1, 'idle')
>>> [found.touched, found.ins, found.outs, stored(told, 2, 'idle').outs]
[[0, 1, 0, 1], 2, 3, 0]

>>> from twinleaves.forms import Form
>>> one, two = Form.named('x'), Form.named('f', 0, 1)
>>> found = 3 - 2 * one + two
>>> [found.form, found.text(), found.text(compact=True), found({('input', 'x'): 5}), found.factor(('input', 'x')), one - one == 0]
[(3, ((('file', 'f', 0, 1), 1), (('input', 'x'), -2))), 'f 0.1 - 2 x + 3', 'f 0.1-2 x+3', -7, -2, True]

>>> from twinleaves.givens import Given, read_given
>>> one = read_given('x = 5\nf 0.1 = - 2')
>>> number = one.drop(('input', 'x'))
>>> other = one | Given({('input', 'y'): 1}, spare=9)
>>> [number, other.pairs(), other((3, ((('input', 'y'), 4),))), other[('input', 'x')], ('input', 'x') in one]
[5, {('file', 'f', 0, 1): -2, ('input', 'y'): 1}, 7, 9, False]

>>> from twinleaves.scripts import Script
>>> from twinleaves.walks import Meter, changes, walk
>>> one = Script(4, 1, [('task', 'a'), ('map', 'a', 0, 2, ('zero',), 'r')]) + [('show', 'a', 0, 0), ('put', 'a', 0, 0, (('number', 1),))]
>>> meter = Meter('put', 'show')
>>> [[told for place, step, told in walk(one)], list(changes(one, 'a')), meter(one * 2), list(meter), len(one.part(1, 3))]
[[True, True, (0, ()), False], [(0, []), (1, [0, 1])], 4, [('put', 2), ('show', 2)], 2]

>>> from twinleaves.entries import books, entries
>>> from twinleaves.shapes import Shape
>>> layout = {leaf: (8 + leaf, 'r') for leaf in range(2, 8)}
>>> [entries(Shape(2, 4, 2), layout).runs, books(Shape(2, 4, 2), layout)]
[[(2, 1), (4, 2)], [(0, 2), (0, 3), (0, 4)]]

>>> from twinleaves.entries import entries
>>> from twinleaves.placing import placing
>>> from twinleaves.shapes import Shape
>>> found = placing(Shape(2, 4, 2), {leaf: 'r' for leaf in range(8)}, [1, 2, 3, 4, 5, 6, 7, 9, 12, 13])
>>> [found.numbers, len(entries(Shape(2, 4, 2), found.layout).runs)]
[[4, 1], 3]

>>> from twinleaves.edits import edited, normal_form
>>> edits = [('map', 0, 4, 20, 'r'), ('move', 1, 2, 4), ('guard', 0, 2, 'rw')]
>>> normal_form(edits, 8)
[(0, ('to', 20, 'rw')), (1, ('none',)), (3, ('to', 20, 'r')), (4, ('to', 17, 'r')), (6, ('old', 0, None))]

>>> from twinleaves.edits import edited
>>> edited([('share', 1, 2, 3), ('unmap', 1, 1)], 8, {1: (7, 'r'), 4: (9, 'rw')})
{3: (7, 'r')}

>>> from twinleaves.editing import commute, lost, telling
>>> one, other = [('move', 0, 1, 1)], [('share', 0, 1, 1), ('unmap', 0, 1)]
>>> [telling(one, other, 4), commute([('guard', 0, 2, 'r')], [('map', 1, 1, 5, 'r')], 4), lost(one, 4)]
[None, True, 1]

>>> from twinleaves.strokes import fewest
>>> edits = [('map', 0, 2, 10, 'r'), ('unmap', 2, 1), ('map', 3, 2, 13, 'r'), ('unmap', 6, 1)]
>>> found = fewest(edits, 8)
>>> [len(found.edits), found.numbers[0][(0, 3)]]
[3, 2]

>>> from twinleaves.compacting import Memory, fewest_moves
>>> found = fewest_moves(Memory(2, 3, [0, 3, 4], [0]), 1)
>>> [len(found.moves), found.blocks in ([1], [2]), fewest_moves(Memory(2, 3, [0, 3, 4], [0]), 2)]
[1, True, None]

>>> from twinleaves.requests import judge_requests
>>> [len(judge_requests('first', 4, [1, 2], 4).steps), judge_requests('first', 4, [1, 2], 3).shows('first', 4, [1, 2], 3)]
[5, True]

>>> from twinleaves.evicting import least_price
>>> found = least_price([1, 2, 3, 1, 2, 3], {1: 1, 2: 1, 3: 5}, 2)
>>> [found.price, sorted(found.kept)]
[8, [(0, 3), (2, 5)]]

>>> from twinleaves.greatest import busiest, most_copies
>>> [most_copies(2, 3, 5), busiest(2, 3, 5).copies]
[3, 3]

>>> from twinleaves.shapes import Shape
>>> from twinleaves.sharing import shared, unshared
>>> one = {0: (5, 'r'), 4: (5, 'r'), 7: (1, 'rw')}
>>> found = shared(Shape(2, 3, 1), [one, {0: (5, 'r'), 4: (5, 'r')}])
>>> [len(found.books), unshared(Shape(2, 3, 1), found)[0] == one]
[6, True]

>>> from twinleaves.arranging import arranged
>>> found = arranged(5, {0: 1, 1: 0, 2: 3}, {0: 4, 1: 2, 2: 1})
>>> [found.weight, sorted(found.rings[0]), arranged(2, {0: 1, 1: 0}, {0: 1, 1: 1})]
[9, [0, 1], None]

>>> from twinleaves.guarding import fewest_guards
>>> book = {leaf: (leaf, 'r') for leaf in range(5)}
>>> len(fewest_guards(9, book, {0: 'rw', 1: 'r', 2: 'rw', 3: 'r', 4: 'rw'}).edits)
3

>>> from twinleaves.books import Book
>>> book = Book(8, {0: 4, 1: (5, 'rw')}).edit(('map', 2, 3, 6, 'r'))
>>> [book.text(), book(3), 5 in book, list((book - {0: 4}).walk(1, 3)), len({7: (1, 'r')} | book)]
['0+1>4:r 1+1>5:rw 2+3>6:r', 7, False, [(1, 5, 'rw'), (2, 6, 'r')], 6]
"""


class ExamplesTest(unittest.TestCase):

    def test_examples(self):
        for number, told in enumerate(EXAMPLES.strip().split('\n\n')):
            test = doctest.DocTestParser().get_doctest(told + '\n', {}, f'example {number}', None, None)
            result = doctest.DocTestRunner().run(test)
            self.assertEqual(result.failed, 0, told)
            self.assertGreater(result.attempted, 1)


if __name__ == '__main__':
    unittest.main()
