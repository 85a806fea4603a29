"""The names of the interface, with their arguments, each in the file that lists it."""

import ast
import importlib
import inspect
import pathlib
import unittest

FOLDER = pathlib.Path(__file__).resolve().parent.parent / 'twinleaves'

# For each file its functions, and its classes with their methods; a property is told without arguments.
INTERFACE = {
    'scripts': ['is_step(thing)', 'Script(leaves, cells, steps)', 'Script.__len__', 'Script.__eq__', 'Script.__iter__', 'Script.__contains__',
                'Script.__add__', 'Script.__radd__', 'Script.__mul__', 'Script.__rmul__', 'Script.part(first=0, last=None, *, every=1)'],
    'reading': ['read_script(told)'],
    'writing': ['write_script(script)'],
    'runs': ['run(script)', 'shown(script, values)', 'inputs_of(script)'],
    'alikes': ['Unlike(given, place)', 'Unlike.shows(one, other)', 'unlike(one, other)'],
    'goings': ['Parting(steps, given)', 'Parting.shows(one, other)', 'parting(one, other)'],
    'needs': ['Needed(places, reasons)', 'Needed.shows(script)', 'needed(script)', 'may_exchange(script, place)'],
    'lazy': ['lazily(script, limit=None)', 'least_limit(script)'],
    'shelves': ['books(script, fan, levels)', 'most_books(script, fan, levels)'],
    'copies': ['Copies(joins, plan, marks)', 'Copies.shows(script)', 'least_copies(script)'],
    'frames': ['Frames(number, leaves, given)', 'Frames.shows(script)', 'least_frames(script)', 'needed_frames(script)'],
    'desks': ['Desk(leaves, cells, *, most=None)', 'Desk.allow(most=None)', 'Desk.__len__', 'Desk.__iter__', 'Desk.__contains__',
              'Desk.cell(name, leaf, cell)', 'Desk.must(step)', 'Desk.together(*steps)', 'Desk.step(step)', 'Desk.shown()', 'Desk.script()',
              'Desk.tasks()', 'Desk.mapped(name)', 'Desk.trial(work)', 'Desk.keep()'],
    'turns': ['Turning(leaves, cells, ahead, body, behind)', 'Turning.__eq__', 'Turning.script(many)', 'UnlikeTurns(many, given, place)',
              'UnlikeTurns.shows(one, other)', 'unlike_turns(one, other)'],
    'telling': ['Tells(factors)', 'Tells.shows(script, unknown, places)', 'Hides(one, other)', 'Hides.shows(script, unknown, places)',
                'tells(script, unknown, places)'],
    'storing': ['stored(script, room, rule)'],
    'anew': ['anew(script)'],
    'forms': ['Form(told)', 'Form.of(n)', 'Form.SIGNS', 'Form.__len__', 'Form.factor(unknown)', 'Form.__contains__', 'Form.__iter__', 'Form.__eq__',
              'Form.__add__', 'Form.__sub__', 'Form.__mul__', 'Form.__neg__', 'Form.__call__(values)', 'Form.text(*, compact=False)'],
    'givens': ['Given(told=None, *, spare=0)', 'Given.__getitem__', 'Given.__setitem__', 'Given.drop(unknown)', 'Given.__contains__', 'Given.__len__',
               'Given.__eq__', 'Given.pairs()', 'Given.__or__', 'Given.__call__(form)', 'read_given(told)'],
    'walks': ['walk(script, *, start=0, every=1)', 'changes(script, task)', 'watcher(desk)', 'Meter(*kinds)', 'Meter.KINDS',
              'Meter.__call__(told, times=1)', 'Meter.count(kind)', 'Meter.__iter__', 'Meter.altogether()'],
    'shapes': ['Shape(fan, levels, widest)', 'Shape.fan()', 'Shape.levels()', 'Shape.widest()', 'Shape.leaves()', 'Shape.width(level)', 'Shape.__eq__'],
    'entries': ['Entries(runs, leaves)', 'Entries.shows(shape, layout)', 'entries(shape, layout)', 'books(shape, layout)'],
    'placing': ['Placing(layout, numbers)', 'Placing.shows(shape, wanted, free)', 'placing(shape, wanted, free)'],
    'edits': ['normal_form(edits, leaves)', 'edited(edits, leaves, book)'],
    'editing': ['Telling(book, leaf)', 'Telling.shows(one, other, leaves)', 'telling(one, other, leaves)', 'commute(one, other, leaves)',
                'lost(edits, leaves)'],
    'strokes': ['Strokes(edits, numbers)', 'Strokes.shows(edits, leaves)', 'fewest(edits, leaves)'],
    'compacting': ['Memory(size, blocks, taken, fixed)', 'Memory.told()', 'Memory.__eq__', 'Moves(moves, blocks)', 'Moves.shows(memory, wanted)',
                   'fewest_moves(memory, wanted)'],
    'requests': ['Served(standings)', 'Served.shows(rule, frames, sizes, most)', 'Refused(steps)', 'Refused.shows(rule, frames, sizes, most)',
                 'judge_requests(rule, frames, sizes, most)'],
    'evicting': ['Least(price, kept, times)', 'Least.shows(touches, weights, frames)', 'least_price(touches, weights, frames)'],
    'greatest': ['most_copies(forks, leaves, puts)', 'Busy(copies, steps)', 'Busy.shows(forks, leaves, puts)', 'busiest(forks, leaves, puts)'],
    'sharing': ['Shared(books, roots)', 'Shared.__eq__', 'shared(shape, layouts)', 'unshared(shape, told)'],
    'arranging': ['Arranged(moves, weight, rings)', 'Arranged.shows(frames, goals, weights)', 'arranged(frames, goals, weights)'],
    'guarding': ['Guards(edits, table, firsts)', 'Guards.shows(leaves, book, wanted)', 'fewest_guards(leaves, book, wanted)'],
    'books': ["Book(leaves, entries=None, *, right='r')", "Book.of(leaves, *runs, right='r')", 'Book.parsed(text, *, leaves=16)', 'Book.is_entry(thing)',
              'Book.MOST', 'Book.room', 'Book.usual', 'Book.__getitem__', 'Book.__setitem__', 'Book.drop(*leaves)', 'Book.__contains__', 'Book.__len__',
              'Book.__call__(leaf, default=None)', 'Book.__or__', 'Book.__ror__', 'Book.__ior__', 'Book.__sub__', 'Book.__eq__',
              'Book.walk(low=0, high=None)', 'Book.laid_runs()', 'Book.text(*, wide=False)', 'Book.use(right)', 'Book.edit(*edits)', 'Book.counter()'],
}


def defined(stem):
    """The names that are defined in a file: functions, classes, and what stands in the bodies of these."""
    found = set()
    for node in ast.parse((FOLDER / f'{stem}.py').read_text()).body:
        if isinstance(node, (ast.FunctionDef, ast.ClassDef)):
            found.add(node.name)
        if isinstance(node, ast.ClassDef):
            for part in node.body:
                if isinstance(part, ast.FunctionDef):
                    found.add(f'{node.name}.{part.name}')
                elif isinstance(part, ast.Assign):
                    found.add(f'{node.name}.{part.targets[0].id}')
    return found


def told(module, name):
    """A name with the arguments that it takes."""
    thing = module
    for part in name.split('.'):
        holder, thing = thing, inspect.getattr_static(thing, part)
    row = list(inspect.signature(getattr(holder, part) if isinstance(thing, staticmethod) else thing).parameters.values())
    if '.' in name and not isinstance(thing, staticmethod):
        row = row[1:]
    return f'{name}{inspect.Signature(row)}'


class InterfaceTest(unittest.TestCase):

    def test_names(self):
        for stem, rows in INTERFACE.items():
            module, names = importlib.import_module(f'twinleaves.{stem}'), defined(stem)
            for row in rows:
                name = row.split('(')[0]
                self.assertIn(name, names, stem)
                if '(' in row:
                    self.assertEqual(told(module, name), row)

    def test_files(self):
        text = (FOLDER.parent.parent / 'shared' / 'DOC.md')
        if text.exists():
            for stem in INTERFACE:
                self.assertIn(f'twinleaves/{stem}.py', text.read_text())

    def test_evidence_is_its_own(self):
        # Two classes of one name, in files of their own.
        errors, requests = importlib.import_module('twinleaves.errors'), importlib.import_module('twinleaves.requests')
        self.assertIsNot(errors.Refused, requests.Refused)
        self.assertEqual([books.__module__ for books in (importlib.import_module('twinleaves.shelves').books,
                                                         importlib.import_module('twinleaves.entries').books)],
                         ['twinleaves.shelves', 'twinleaves.entries'])


if __name__ == '__main__':
    unittest.main()
