"""The errors of the interface."""

import unittest

from twinleaves import errors


class ErrorsTest(unittest.TestCase):

    NAMES = ('BadScript', 'BadText', 'BadValues', 'BadPlace', 'BadNumber', 'BadSteps', 'TooLarge', 'BadForm',
             'BadGiven', 'Refused', 'BadShape', 'BadLayout', 'BadEdit', 'BadBook', 'BadChange', 'BadMemory',
             'BadTouches', 'NoLeaf')

    def test_family(self):
        self.assertEqual(errors.LeafError.__bases__, (ValueError,))
        for name in self.NAMES:
            self.assertEqual(getattr(errors, name).__bases__, (errors.LeafError,), name)

    def test_attributes(self):
        self.assertEqual(errors.BadScript(3).place, 3)
        self.assertIsNone(errors.BadScript(None).place)
        self.assertEqual(errors.BadEdit(2).place, 2)
        self.assertEqual(errors.NoLeaf(7).leaf, 7)
        self.assertEqual(errors.Refused(('end', 'a')).step, ('end', 'a'))
        for kind in (errors.BadText, errors.BadGiven):
            wrong = kind(4, 5)
            self.assertEqual((wrong.line, wrong.column), (4, 5))


if __name__ == '__main__':
    unittest.main()
