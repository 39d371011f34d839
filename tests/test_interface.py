"""The interface: the names and arguments of the files, and where they are defined."""

import inspect
import unittest

from leanfar import desk, hands, leaning, logs, nets, reading, rings, texts, worlds

LISTED = {
    worlds: {
        "is_name": ["thing"], "is_place": ["thing"], "is_rule": ["thing"], "is_world": ["thing"],
        "named": ["world"],
    },
    reading: {
        "is_held": ["world", "reading"], "is_shut": ["world", "reading"], "fits": ["world", "reading"],
        "least": ["world"], "reason_of": ["world", "place"], "why": ["world", "place"],
        "why_shows": ["world", "place", "paper"], "why_not": ["world", "place"],
        "why_not_shows": ["world", "place", "paper"],
    },
    leaning: {
        "falls": ["world", "places"], "needed": ["world", "place"], "enough": ["world", "place"],
        "cuts": ["world", "place"], "gains": ["world", "places"],
    },
    rings: {"ring_in": ["leanings"]},
    logs: {
        "is_what": ["thing"], "first_wrong": ["name", "log"], "counted": ["name", "log"], "spans": ["name", "log"],
        "woven": ["logs"],
    },
    texts: {
        "show_place": ["place"], "read_place": ["text"], "show_rule": ["rule"], "read_rule": ["text"],
        "show_letter": ["letter"], "read_letter": ["text"], "show_what": ["what"], "read_what": ["text"],
    },
}

CLASSES = {
    hands: {
        "Hand": {
            "__init__": ["name"], "vouch": ["saying"], "withdraw": ["saying"], "drop": ["number"],
            "join": ["neighbour"], "part": ["neighbour"], "hear": ["neighbour", "letter"],
            "lean": ["saying", "premises", "*cost=1"], "name": [], "neighbours": [], "height": ["saying"],
            "settled": [], "open_ones": [], "reason": ["saying"], "rules": [], "vouched": [],
            "heard_of": ["neighbour"], "awaited": ["saying"], "cause": ["saying"], "owed": [], "turns": [],
        },
    },
    nets: {
        "Net": {
            "__init__": [], "come": ["hand"], "join": ["hand", "other"], "part": ["hand", "other"],
            "vouch": ["hand", "saying"], "withdraw": ["hand", "saying"], "drop": ["hand", "number"],
            "step": ["hand", "other"], "lean": ["hand", "saying", "premises", "*cost=1"], "rest": [], "hands": [],
            "roads": [], "world": [], "heights": [], "open_places": [], "lying": [], "lane": ["hand", "other"],
            "leans_on": ["place"], "ring": [], "why": ["place"], "blame": ["place"], "waits_for": ["place"],
            "log": ["hand"], "height": ["hand", "saying"], "reason": ["hand", "saying"],
            "awaited": ["hand", "saying"], "cause": ["hand", "saying"], "owed": ["hand"], "turns": ["hand"],
            "heard_of": ["hand", "neighbour"],
        },
    },
    desk: {"Desk": {"__init__": [], "say": ["row"]}},
}


def taken_by(function):
    """The arguments of a function, with * where they are handed by name, and with = what is left out."""
    found = []
    for parameter in inspect.signature(function).parameters.values():
        star = "*" if parameter.kind == parameter.KEYWORD_ONLY else ""
        left_out = "" if parameter.default is parameter.empty else f"={parameter.default!r}"
        found.append(star + parameter.name + left_out)
    return found


class Interface(unittest.TestCase):

    def test_each_function_is_defined_where_it_is_listed(self):
        for file, functions in LISTED.items():
            for name in functions:
                function = getattr(file, name)
                self.assertTrue(inspect.isfunction(function), name)
                self.assertEqual(function.__module__, file.__name__, name)

    def test_each_function_takes_the_listed_arguments(self):
        for file, functions in LISTED.items():
            for name, arguments in functions.items():
                self.assertEqual(taken_by(getattr(file, name)), arguments, name)

    def test_each_class_and_method_is_defined_where_it_is_listed(self):
        for file, classes in CLASSES.items():
            for name, methods in classes.items():
                found = getattr(file, name)
                self.assertTrue(inspect.isclass(found), name)
                self.assertEqual(found.__module__, file.__name__, name)
                for method in methods:
                    self.assertTrue(inspect.isfunction(vars(found).get(method)), (name, method))

    def test_each_method_takes_the_listed_arguments(self):
        for file, classes in CLASSES.items():
            for name, methods in classes.items():
                for method, arguments in methods.items():
                    taken = taken_by(getattr(getattr(file, name), method))
                    self.assertEqual(taken, ["self"] + arguments, (name, method))
