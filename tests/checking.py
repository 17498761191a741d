"""What the tests of several files check alike."""

import unittest


class Refusing(unittest.TestCase):
    def refused(self, error, values, call, *args):
        with self.assertRaises((LookupError, ValueError)) as caught:
            call(*args)
        self.assertIs(type(caught.exception), error)
        self.assertEqual(vars(caught.exception), values)
