"""The greatest number of copies: [16]."""

import copy
import unittest

from twinleaves.errors import BadNumber
from twinleaves.greatest import Busy, busiest, most_copies


def copies_of(steps):
    """How many copies steps need, with the holders of each frame told one by one."""
    tasks, copies, many = [{}], 0, 0
    for kind, task, leaf in steps:
        if kind == 'fork':
            assert leaf is None
            tasks.append(dict(tasks[task]))
            continue
        frame = tasks[task].get(leaf)
        held = [one for one in tasks if one.get(leaf) == frame]
        if frame is None or len(held) > 1:
            copies += frame is not None
            tasks[task][leaf] = many
            many += 1
    return copies


def most_by_trying(forks, leaves, puts):
    """The greatest number of copies, by all steps."""
    best, seen = 0, set()

    def go(tasks, forked, used, copies):
        nonlocal best
        best = max(best, copies)
        # Which frame it is does not matter, but who holds the same one.
        names = {}
        key = (tuple(tuple(names.setdefault(frame, len(names)) if frame is not None else None for frame in task) for task in tasks),
               forked, used, copies)
        if key in seen:
            return
        seen.add(key)
        if forked < forks:
            for task in set(tasks):
                go([*tasks, task], forked + 1, used, copies)
        if used < puts:
            for at, task in enumerate(tasks):
                for leaf in range(leaves):
                    held = sum(one[leaf] == task[leaf] for one in tasks)
                    new = 1 + max([frame for one in tasks for frame in one if frame is not None], default=-1)
                    if task[leaf] is None or held > 1:
                        other = (*task[:leaf], new, *task[leaf + 1:])
                        go([*tasks[:at], other, *tasks[at + 1:]], forked, used + 1, copies + (task[leaf] is not None))

    go([(None,) * leaves], 0, 0, 0)
    return best


class GreatestTest(unittest.TestCase):

    def judge(self, forks, leaves, puts):
        most = most_copies(forks, leaves, puts)
        found = busiest(forks, leaves, puts)
        self.assertEqual((found.copies, copies_of(found.steps)), (most, most))
        self.assertLessEqual([step[0] for step in found.steps].count('fork'), forks)
        self.assertLessEqual([step[0] for step in found.steps].count('put'), puts)
        self.assertTrue(all(step[2] is None or 0 <= step[2] < leaves for step in found.steps))
        self.assertIs(found.shows(forks, leaves, puts), True)
        self.assertEqual(found, busiest(forks, leaves, puts))
        return most

    def test_example(self):
        self.assertEqual([most_copies(2, 3, 5), busiest(2, 3, 5).copies], [3, 3])

    def test_all_steps(self):
        for forks in range(4):
            for leaves in range(4):
                for puts in range(6 if forks < 3 and leaves < 3 else 5):
                    self.assertEqual(self.judge(forks, leaves, puts), most_by_trying(forks, leaves, puts), (forks, leaves, puts))

    def test_numbers(self):
        for told, most in (((0, 200, 200), 0), ((200, 0, 200), 0), ((200, 200, 0), 0), ((200, 200, 1), 0), ((200, 200, 2), 1), ((1, 200, 200), 100),
                           ((200, 1, 200), 199), ((1, 1, 200), 1), ((2, 5, 200), 10), ((200, 200, 200), 199), ((13, 200, 200), 185),
                           ((3, 200, 10), 7), ((3, 200, 9), 6), ((3, 200, 11), 8), ((0, 0, 0), 0)):
            self.assertEqual(self.judge(*told), most, told)
        for forks in range(0, 201, 23):
            for leaves in range(0, 201, 19):
                for puts in range(0, 201, 17):
                    self.assertEqual(self.judge(forks, leaves, puts),
                                     max(min(forks * many, puts - many) for many in range(min(leaves, puts) + 1)))

    def test_bent_evidence(self):
        good = busiest(2, 3, 5)
        for change in (lambda one: setattr(one, 'copies', 2), lambda one: setattr(one, 'copies', 4), lambda one: one.steps.pop(),
                       lambda one: one.steps.pop(0), lambda one: one.steps.append(('put', 0, 0)), lambda one: one.steps.append(('fork', 0, None)),
                       lambda one: one.steps.clear(), lambda one: one.steps.reverse(), lambda one: one.steps.__setitem__(-1, ('put', 3, 0)),
                       lambda one: one.steps.__setitem__(-1, ('put', -1, 0)), lambda one: one.steps.__setitem__(0, ('put', 0, 3)),
                       lambda one: one.steps.__setitem__(0, ('put', 0, -1)), lambda one: one.steps.__setitem__(2, ('fork', 1, None))):
            bent = copy.deepcopy(good)
            change(bent)
            self.assertIs(bent.shows(2, 3, 5), False, (bent.copies, bent.steps))
        for told in ((1, 3, 5), (2, 1, 5), (2, 3, 4), (2, 3, 6)):
            self.assertIs(good.shows(*told), False, told)
        self.assertIs(good.shows(2, 2, 5), True)
        two = [('put', 0, 0), ('fork', 0, None), ('put', 0, 0)]
        for wrong in (('fork', 0, 0), ('fork', 1, None), ('fork', -1, None), ('put', 0, 0), ('put', 0, None), ('fork', 10 ** 30, None)):
            self.assertIs(Busy(1, [two[0], wrong, two[2]]).shows(1, 1, 2), False, wrong)
        for wrong in (('put', -1, 0), ('put', 2, 0), ('put', 0, 1), ('put', 0, -1), ('put', 0, None), ('put', 10 ** 30, 0)):
            self.assertIs(Busy(1, [*two[:2], wrong]).shows(1, 1, 2), False, wrong)
        for leaf, shows in ((0, True), (1, True), (2, False), (-1, False), (10 ** 30, False)):
            self.assertIs(Busy(1, [('put', 0, leaf), ('fork', 0, None), ('put', 1, leaf)]).shows(1, 2, 2), shows, leaf)
        for steps, shows in ((two, True), ([('put', 0, 0), ('fork', 0, None), ('put', 1, 0)], True),
                             ([('fork', 0, None), ('put', 0, 0), ('put', 1, 0)], False), ([('put', 0, 0), ('put', 0, 0)], False)):
            self.assertIs(Busy(1, steps).shows(1, 1, 2), shows, steps)
        self.assertIs(Busy(1, [('put', 0, 0), ('fork', 0, None), ('put', 0, 0), ('put', 1, 0)]).shows(1, 1, 3), True)
        self.assertIs(Busy(0, [('fork', 0, None), ('put', 1, 0)]).shows(1, 1, 1), True)
        self.assertIs(Busy(0, []).shows(0, 0, 0), True)

    def test_as_evidence(self):
        one = Busy(0, (('put', 0, 0),))
        self.assertEqual((one.copies, one.steps), (0, [('put', 0, 0)]))
        self.assertEqual(one, Busy(0, [('put', 0, 0)]))
        for other in (Busy(1, [('put', 0, 0)]), Busy(0, []), None):
            self.assertNotEqual(one, other)
        busiest(2, 3, 5).steps.clear()
        self.assertEqual(len(busiest(2, 3, 5).steps), 7)

    def test_wrong_arguments(self):
        for call in (most_copies, busiest, Busy(0, []).shows):
            for wrong in (-1, 201, True, False, None, '1', 1.0, [1], 10 ** 30):
                for told in ((wrong, 1, 1), (1, wrong, 1), (1, 1, wrong)):
                    with self.assertRaises(BadNumber):
                        call(*told)


if __name__ == '__main__':
    unittest.main()
