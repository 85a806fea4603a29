"""How texts are read: [3]."""

import random
import unittest

from twinleaves.errors import BadText
from twinleaves.reading import read_script
from twinleaves.scripts import Script

HEAD = 'space 8 leaves 2 cells'

# Lines with blanks between all words, numbers and signs, and their steps.
LINES = [
    ('task a', ('task', 'a')),
    ('end abcdefgh', ('end', 'abcdefgh')),
    ('fork a b', ('fork', 'a', 'b')),
    ('file f 0', ('file', 'f', 0)),
    ('file f 64', ('file', 'f', 64)),
    ('cut f 10', ('cut', 'f', 10)),
    ('map a 0 2 zero rw', ('map', 'a', 0, 2, ('zero',), 'rw')),
    ('map a 999 64 zero r', ('map', 'a', 999, 64, ('zero',), 'r')),
    ('map a 0 2 apart f 62 r', ('map', 'a', 0, 2, ('apart', 'f', 62), 'r')),
    ('map zero 7 64 common apart 0 rw', ('map', 'zero', 7, 64, ('common', 'apart', 0), 'rw')),
    ('unmap a 0 64', ('unmap', 'a', 0, 64)),
    ('guard a 999 1 r', ('guard', 'a', 999, 1, 'r')),
    ('move a 3 2 to 999', ('move', 'a', 3, 2, 999)),
    ('move to 3 2 to 0', ('move', 'to', 3, 2, 0)),
    ('show a 3 . 1', ('show', 'a', 3, 1)),
    ('show show 999 . 999', ('show', 'show', 999, 999)),
    ('put a 0 . 1 = 0', ('put', 'a', 0, 1, (('number', 0),))),
    ('put a 0 . 1 = - 12345678901', ('put', 'a', 0, 1, (('number', -12345678901),))),
    ('put a 0 . 1 = x', ('put', 'a', 0, 1, (('input', 'x', 1),))),
    ('put a 0 . 1 = - x', ('put', 'a', 0, 1, (('input', 'x', -1),))),
    ('put a 0 . 1 = 0 x', ('put', 'a', 0, 1, (('input', 'x', 0),))),
    ('put a 0 . 1 = 1 x - 1 x', ('put', 'a', 0, 1, (('input', 'x', 1), ('input', 'x', -1)))),
    ('put a 0 . 1 = - 0 x + 1000 x', ('put', 'a', 0, 1, (('input', 'x', 0), ('input', 'x', 1000)))),
    ('put a 0 . 1 = b 3 . 1', ('put', 'a', 0, 1, (('cell', 'b', 3, 1, 1),))),
    ('put a 0 . 1 = - 7 b 999 . 999', ('put', 'a', 0, 1, (('cell', 'b', 999, 999, -7),))),
    ('put a 0 . 1 = x + 2 a 1 . 0 - 3',
     ('put', 'a', 0, 1, (('input', 'x', 1), ('cell', 'a', 1, 0, 2), ('number', -3)))),
    ('put a 0 . 1 = 1 + 2 + 3 - 4 + 5 - x + 7 + 8 y',
     ('put', 'a', 0, 1, (('number', 1), ('number', 2), ('number', 3), ('number', -4), ('number', 5),
                         ('input', 'x', -1), ('number', 7), ('input', 'y', 8)))),
]

# Wrong lines; the place of what does not fit is told by the sign ^ below it.
WRONG_LINES = '''
tasks a
^
Task a
^
7 a
^
task A
     ^
task abcdefghi
     ^
task aB
      ^
task a b
       ^
task a #
       ^
task\ta
    ^
task 7
     ^
task a 1
       ^
fork a
      ^
fork a 7
       ^
file f 65
       ^
file f 1000
       ^
file f 007
       ^
file f 00
       ^
file f -1
       ^
file f 1 .
         ^
file f
      ^
cut f 65
      ^
map a 1000 1 zero r
      ^
map a 0 0 zero r
        ^
map a 0 65 zero r
        ^
map a 0 01 zero r
        ^
map a 0 1 null r
          ^
map a 0 1 zero w
               ^
map a 0 1 zero rwr
               ^
map a 0 1 zero r r
                 ^
map a 0 1 zero f r
               ^
map a 0 2 apart f 63 r
                  ^
map a 0 64 common f 1 r
                    ^
map a 0 1 common f 64 r
                   ^
map a 0 1 apart f r
                  ^
map a 0 1 apart 1 f r
                ^
unmap a 0 1 r
            ^
unmap a 0
         ^
guard a 0 1 rx
            ^
move a 0 1 2
           ^
move a 0 1 too 2
           ^
move a 0 1 to 1000
              ^
move a 0 1 to
             ^
show a 0 1
         ^
show a 0 . 1000
           ^
show a 0,1
        ^
show a 1000.1
       ^
show a .1
       ^
show a 0.1.1
          ^
put a 0.1 x
          ^
put a 0.1 = + x
            ^
put a 0.1 = - - x
              ^
put a 0.1 = x + - 3
                ^
put a 0.1 = x x
              ^
put a 0.1 = 2 3
              ^
put a 0.1 = 02
            ^
put a 0.1 = 02 x
            ^
put a 0.1 = 2 abcdefghi
              ^
put a 0.1 = abcdefghi
            ^
put a 0.1 = x 01.1
              ^
put a 0.1 = x 1000.1
              ^
put a 0.1 = x 1.1000
                ^
put a 0.1 = x 1 1
                ^
put a 0.1 = x 1.01
                ^
put a 0.1 = x * 2
              ^
put a 0.1 = 1 + 2 + 3 + 4 + 5 + 6 + 7 + 8 + 9
                                          ^
put a 0.1 = 1 - 2 - 3 - 4 - 5 - 6 - 7 - 8 - 9
                                          ^
put a 0.1 = - x 1.1 - 2 x 1.1 + 3 + 4 + 5 + 6 + 7 + 8 8
                                                      ^
put a 0.1 == x
           ^
put a 0.1 = (x)
            ^
'''.strip('\n').split('\n')


class ReadingTest(unittest.TestCase):

    def wrong(self, line, column, text):
        with self.assertRaises(BadText) as caught:
            read_script(text)
        self.assertEqual((caught.exception.line, caught.exception.column), (line, column), text)

    def test_lines(self):
        for row, step in LINES:
            self.assertEqual(read_script(HEAD + '\n' + row), Script(8, 2, [step]), row)

    def test_layouts(self):
        self.assertEqual(read_script('space 64 leaves 4 cells'), Script(64, 4, []))
        self.assertEqual(read_script('space1leaves1cells'), Script(1, 1, []))
        for row, column in (('space 65 leaves 2 cells', 7), ('space 0 leaves 2 cells', 7),
                            ('space 08 leaves 2 cells', 7), ('space 8 leaves 5 cells', 16),
                            ('space 8 leaves 0 cells', 16), ('space 8 leaf 2 cells', 9),
                            ('space 8 leaves 2 cell', 18), ('space 8 leaves 2 cells .', 24),
                            ('task a', 1), ('8 leaves 2 cells', 1), ('space', 6), ('space 8 leaves 2  ', 19)):
            self.wrong(1, column, row)
            self.wrong(3, column, '\n# one\n' + row + '\ntask a')

    def test_wrong_lines(self):
        for row, below in zip(WRONG_LINES[::2], WRONG_LINES[1::2]):
            self.wrong(2, below.index('^') + 1, HEAD + '\n' + row)

    def test_any_sign_at_any_place(self):
        # Each of these fits nowhere, so it is told wherever it stands.
        for row, _ in LINES:
            pieces = row.split(' ')
            for at in range(len(pieces) + 1):
                for wrong in ('?', '#', '\t', '\r', 'A', 'abcdefghi', '012', '00', '\u00e9', '\u0663', '\u00a0'):
                    front = ' '.join(pieces[:at] + [''])
                    told = front + wrong + ' ' + ' '.join(pieces[at:])
                    if at > 0 or not wrong.startswith('#'):
                        self.wrong(3, len(front) + 1, HEAD + '\n\n' + told)

    def test_lines_that_end_too_early(self):
        whole = [row for row, _ in LINES]
        for row in whole:
            pieces = row.split(' ')
            for at in range(1, len(pieces)):
                for behind in ('', '   '):
                    told = ' '.join(pieces[:at])
                    # Totals may end at several places.
                    if '=' in pieces[:at] and pieces[at - 1] not in '+-.=' and pieces[at:at + 1] != ['.']:
                        continue
                    self.wrong(2, len(told + behind) + 1, HEAD + '\n' + told + behind + '\nend a')

    def test_blanks(self):
        dice = random.Random(1)
        for row, step in LINES:
            pieces = row.split(' ')
            for _ in range(5):
                told = ''.join(' ' * dice.randint(1, 3) + piece for piece in pieces) + ' ' * dice.randint(0, 2)
                self.assertEqual(read_script(HEAD + '\n' + told).steps, (step,), told)
            told = pieces[0]
            for last, piece in zip(pieces, pieces[1:]):
                apart = (last.isalpha() and piece.isalpha()) or (last.isdigit() and piece.isdigit())
                told += ' ' * apart + piece
            self.assertEqual(read_script(HEAD + '\n' + told).steps, (step,), told)

    def test_left_out_lines(self):
        text = '\n   \n#\n  # task b\n' + HEAD + '\n\n#put\n task a\n    #\nend a\n\n'
        self.assertEqual(read_script(text), Script(8, 2, [('task', 'a'), ('end', 'a')]))
        self.wrong(10, 1, text.replace('end a', 'ends a'))
        self.wrong(8, 7, text.replace('task a', 'task 5'))

    def test_texts_without_lines(self):
        for text in ('', ' ', '\n', '  \n\n', '#', '# space 8 leaves 2 cells', '\n  # \n'):
            self.wrong(1, 1, text)

    def test_first_wrong_line(self):
        self.wrong(2, 6, HEAD + '\ntask 5\nfoo\n')
        self.wrong(1, 1, 'foo\ntask 5')
        self.wrong(3, 5, HEAD + '\ntask a\ntask\rb\n')
        self.wrong(1, len(HEAD) + 1, HEAD + '\r\ntask a')

    def test_number_of_steps(self):
        text = HEAD + '\ntask a' * 300
        self.assertEqual(len(read_script(text)), 300)
        self.assertEqual(len(read_script(text + '\n\n  # more\n')), 300)
        self.wrong(302, 1, text + '\ntask a')
        self.wrong(303, 3, text + '\n\n  task a\ntask a')
        self.wrong(302, 2, text + '\n 7')
        self.wrong(200, 6, text.replace('task a', 'task 5', 199).replace('task 5', 'task a', 198) + '\ntask a')

    def test_large_numbers(self):
        figures = '9' * 1000
        script = read_script(f'{HEAD}\nput a 0.0 = {figures} - {figures} x')
        self.assertEqual(script.steps[0][4], (('number', int(figures)), ('input', 'x', -int(figures))))
        for many in (4, 1000, 9999):
            self.wrong(2, 6, f'{HEAD}\ncut f' + '9' * many)
            self.wrong(2, 7, f'{HEAD}\nshow a' + '9' * many + ' . 0')

    def test_no_string(self):
        for told in (None, 5, b'space 8 leaves 2 cells', ['space 8 leaves 2 cells'], ()):
            self.wrong(0, 0, told)


if __name__ == '__main__':
    unittest.main()
