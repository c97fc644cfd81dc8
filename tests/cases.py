"""A test case that also asks for the reasons of refusals."""

import unittest

from probeweb.errors import Malformed, Refused


class Case(unittest.TestCase):
    def refuses(self, reason, function, *arguments):
        """The call raises Refused with this reason."""
        with self.assertRaises(Refused) as caught:
            function(*arguments)
        self.assertEqual(caught.exception.reason, reason)

    def malformed(self, function, *arguments):
        """The call raises Malformed."""
        with self.assertRaises(Malformed):
            function(*arguments)

    def malformed_pairs(self, function, values, A, *further):
        """The call raises Malformed for these values in the place of one or both structures."""
        for value in values:
            self.malformed(function, value, A, *further)
            self.malformed(function, A, value, *further)
            self.malformed(function, value, value, *further)
