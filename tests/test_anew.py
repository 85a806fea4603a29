"""Short scripts to the same standing: [20]."""

import unittest

from tests.model import Maker, leaves_there, refused_of, standing_of, tuples_of, worlds_of
from twinleaves.anew import anew
from twinleaves.errors import BadScript, TooLarge
from twinleaves.goings import parting
from twinleaves.reading import read_script
from twinleaves.scripts import Script


def told(text, leaves=4, cells=1):
    return read_script(f'space {leaves} leaves {cells} cells\n' + text.replace('; ', '\n'))


def numbers_of(script):
    """f, t, m, l and u of [20], by the model."""
    world = worlds_of(script)[0][-1]
    mapped = sum(len(space) for space in world.tasks.values())
    changed = [(f, at) for f, rows in world.files.items() for at, contents in enumerate(rows)
               if tuples_of(contents) != tuple((0, ((('file', f, at, c), 1),)) for c in range(script.cells))]
    contents = [held for leaf, held in leaves_there(world).items() if leaf[0] == 'task' or leaf[1:] in changed]
    unknowns = {unknown for held in contents for form in held for unknown, _ in form[1]}
    return len(world.files), len(world.tasks), mapped, len(changed), len(unknowns)


def is_large(script):
    return any(many > most for many, most in zip(numbers_of(script), (20, 6, 8, 4, 8)))


class AnewTest(unittest.TestCase):

    def judge(self, script):
        f, t, m, l, u = numbers_of(script)
        found = anew(script)
        self.assertIsInstance(found, Script)
        self.assertEqual((found.leaves, found.cells), (script.leaves, script.cells))
        self.assertNotIn('show', [step[0] for step in found])
        self.assertLessEqual(len(found), 5 + 2 * f + t + 7 * u + (2 + 2 * script.cells) * (m + l))
        self.assertEqual(standing_of(worlds_of(found)[0][-1]), standing_of(worlds_of(script)[0][-1]))
        self.assertEqual(refused_of(found), [])
        self.assertIsNone(parting(found, script))
        self.assertEqual(found, anew(script))

    def large(self, script):
        self.assertTrue(is_large(script), script.steps)
        with self.assertRaises(TooLarge):
            anew(script)

    def test_example(self):
        self.judge(told('file f 2; task a; map a 0 2 common f 0 rw; put a 0.0 = a 1.0; fork a b; cut f 1'))

    def test_scripts(self):
        for text in ('', 'show a 0.0', 'task a', 'task a; end a', 'task a; map a 1 2 zero r; show a 1.0',
                     'task a; map a 0 1 zero rw; put a 0.0 = x - 4; guard a 0 1 r',
                     'file f 3; cut f 1', 'file f 3; cut f 0; cut f 2', 'file f 0; task a; map a 0 4 apart f 60 rw',
                     'file f 64; cut f 63', 'file f 64; task a; map a 0 1 apart f 63 rw; put a 0.0 = a 0.0; cut f 9',
                     'file f 64; task a; map a 0 1 common f 63 rw; map a 1 1 zero rw; put a 1.0 = a 0.0; put a 0.0 = 2',
                     'file f 1; file g 1; task a; map a 0 1 common f 0 rw; '
                     'map a 1 1 common g 0 rw; map a 2 1 zero rw; put a 2.0 = a 0.0; put a 0.0 = a 1.0; '
                     'put a 1.0 = a 2.0', 'file f 1; task a; map a 0 1 common f 0 rw; put a 0.0 = 2 a 0.0 + 1',
                     'file f 1; task a; map a 0 1 common f 0 rw; put a 0.0 = 0',
                     'file f 1; task a; map a 0 1 apart f 0 rw; put a 0.0 = a 0.0; cut f 0; cut f 1',
                     'task a; map a 0 1 zero rw; task b; task c; task d; fork a e; fork a f'):
            self.judge(told(text))

    def test_tasks_with_the_names_of_helpers(self):
        self.judge(told('file d 1; file a 2; task a; task b; task c; task d; map d 0 1 common a 1 rw; '
                        'map c 1 1 zero rw; put c 1.0 = d 0.0; put d 0.0 = x'))

    def test_eight_unknowns_and_a_number(self):
        letters = 'pqrstuvw'
        total = ' + '.join(letters)
        text = f'file f 4; task a; map a 0 4 zero rw; put a 0.0 = {total}; put a 0.0 = a 0.0 + 9; put a 1.1 = -5'
        self.judge(told(text, 4, 2))
        text += '; task b; map b 0 4 common f 0 rw; put b 3.1 = a 0.0 - 2'
        # The other cell of this leaf has a ninth unknown, that of the file.
        self.large(told(text, 4, 2))
        text += '; put b 3.0 = 0'
        self.judge(told(text, 4, 2))
        self.large(told(text + '; put a 2.0 = z', 4, 2))

    def test_all_at_their_limits(self):
        # Each of 8 own leaves and of 4 leaves of files has 8 unknowns of files and a number in all 4 cells.
        for leaves in (2, 64):
            steps = [('file', word, 5) for word in 'fghijklmnopqrstuvwxy']
            steps += [('task', 's'), ('map', 's', 0, 1, ('zero',), 'rw'), ('map', 's', 1, 1, ('apart', 'g', 4), 'r')]
            for k in range(8):
                steps.append(('put', 's', 0, 0, (('cell', 's', 0, 0, 1), ('cell', 's', 1, k % 4, k + 1))))
                steps += [('unmap', 's', 1, 1), ('map', 's', 1, 1, ('apart', 'h', 3), 'r')] * (k == 3)
            steps += [('put', 's', 0, 0, (('cell', 's', 0, 0, 1), ('number', 7)))]
            steps += [('put', 's', 0, k, (('cell', 's', 0, 0, k), ('number', -k))) for k in (1, 2, 3)]
            for word, off in (('g', 4), ('h', 3), ('f', 0), ('f', 1)):
                steps += [('unmap', 's', 1, 1), ('map', 's', 1, 1, ('common', word, off), 'rw')]
                steps += [('put', 's', 1, k, (('cell', 's', 0, k, 3), ('number', off))) for k in range(4)]
            steps += [('unmap', 's', 1, 1)] + [('fork', 's', word) for word in 'abcde']
            steps += [('map', word, 1, 1, ('zero',), 'rw') for word in 'ab']
            steps += [('put', word, 1, k, (('cell', 's', 0, k, -2), ('number', 1))) for word in 'ab' for k in range(4)]
            steps += [('cut', 'g', 5), ('cut', 'x', 4)] + [('guard', word, 0, 1, 'r') for word in 'abcs']
            script = Script(leaves, 4, steps)
            self.assertEqual(numbers_of(script), (20, 6, 8, 4, 8))
            self.judge(script)
            self.judge(script + [('cut', word, 3) for word in 'ijkl'])

    def test_just_beyond_limits(self):
        files = [('file', word, 1) for word in 'abcdefghijklmnopqrst']
        self.judge(Script(4, 1, files))
        self.large(Script(4, 1, files + [('file', 'u', 0)]))
        tasks = [('task', word) for word in 'abcdef']
        self.judge(Script(4, 1, tasks))
        self.large(Script(4, 1, tasks + [('task', 'g')]))
        leaves = [('task', 'a'), ('map', 'a', 0, 8, ('zero',), 'rw')]
        self.judge(Script(9, 1, leaves))
        self.large(Script(9, 1, leaves + [('map', 'a', 8, 1, ('zero',), 'rw')]))
        self.large(Script(9, 1, [('file', 'f', 0)] + leaves + [('map', 'a', 8, 1, ('apart', 'f', 0), 'rw')]))
        self.large(Script(9, 1, leaves + [('task', 'b'), ('map', 'b', 8, 1, ('zero',), 'rw')]))
        cut = [('file', 'f', 1), ('cut', 'f', 5)]
        self.judge(Script(4, 1, cut))
        self.large(Script(4, 1, cut + [('cut', 'f', 6)]))
        self.large(Script(4, 1, [('file', 'f', 5), ('cut', 'f', 0), ('cut', 'f', 5)]))
        inputs = tuple(('input', word, 1) for word in 'pqrstuvw')
        front = [('task', 'a'), ('map', 'a', 0, 1, ('zero',), 'rw'), ('put', 'a', 0, 0, inputs)]
        self.judge(Script(4, 1, front))
        ninth = [('put', 'a', 0, 0, (('cell', 'a', 0, 0, 1), ('input', 'x', 1)))]
        self.large(Script(4, 1, front + ninth))
        # Unknowns in leaves of files that are as at first do not count.
        self.judge(Script(4, 1, [('file', 'f', 64), ('cut', 'f', 9)] + front))

    def test_against_the_model(self):
        for seed in range(600):
            maker = Maker(seed, 1 + seed % 4, 1 + seed % 4, inputs='uvwxyz')
            script = Script(maker.leaves, maker.cells, maker.steps(4 + seed % 40))
            if is_large(script):
                self.large(script)
            else:
                self.judge(script)

    def test_long_script(self):
        self.judge(Script(64, 4, ([('task', 'a'), ('end', 'a'), ('show', 'a', 0, 0)] * 100)))

    def test_no_script(self):
        for wrong in (None, 5, [], 'space 1 leaves 1 cells'):
            with self.assertRaises(BadScript) as caught:
                anew(wrong)
            self.assertIsNone(caught.exception.place)


if __name__ == '__main__':
    unittest.main()
