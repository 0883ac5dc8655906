"""What the tests of all files have in common."""

import unittest

from truetouch.errors import TouchError


class TouchCase(unittest.TestCase):

    def raises(self, kind, told, deed, *arguments, **named):
        """Asserts that the deed raises this very kind of error, with these attributes; gives the error."""
        with self.assertRaises(TouchError) as caught:
            deed(*arguments, **named)
        error = caught.exception
        self.assertIs(type(error), kind, (error, vars(error)))
        attributes = vars(error)
        self.assertEqual(list(attributes.values()), list(told))
        for worth, wanted in zip(attributes.values(), told):
            self.assertIs(type(worth), type(wanted))
        return error
