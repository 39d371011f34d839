"""The interface: the names and arguments of the files, and where they are defined."""

import inspect
import unittest

from leanfar import reading, worlds

LISTED = {
    worlds: {
        "is_name": ["thing"], "is_place": ["thing"], "is_rule": ["thing"], "is_world": ["thing"],
        "named": ["world"],
    },
    reading: {
        "is_held": ["world", "reading"], "is_shut": ["world", "reading"], "fits": ["world", "reading"],
        "least": ["world"], "reason_of": ["world", "place"], "why": ["world", "place"],
        "why_shows": ["world", "place", "paper"], "why_not": ["world", "place"],
        "why_not_shows": ["world", "place", "paper"],
    },
}


class Interface(unittest.TestCase):

    def test_each_function_is_defined_where_it_is_listed(self):
        for file, functions in LISTED.items():
            for name in functions:
                function = getattr(file, name)
                self.assertTrue(inspect.isfunction(function), name)
                self.assertEqual(function.__module__, file.__name__, name)

    def test_each_function_takes_the_listed_arguments(self):
        for file, functions in LISTED.items():
            for name, arguments in functions.items():
                taken = inspect.signature(getattr(file, name)).parameters
                self.assertEqual(list(taken), arguments, name)
                for parameter in taken.values():
                    self.assertIs(parameter.default, parameter.empty, name)
