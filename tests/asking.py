"""What the tests share: odd things, good things otherwise in one part, and how to ask."""

import unittest

from leanfar import errors

REFUSALS = [
    "NoName", "NoPlace", "NoRule", "NoWorld", "NoPaper", "NotHeld", "Held", "NotVouched", "Twice",
    "NoRoad", "NoLetter", "NoHand", "Empty", "Busy", "NotOpen", "NoLog", "NoRow", "NoText",
]


def _raises(self, *rest):
    raise RuntimeError("a thing handed in was asked to do something")


class Hostile:
    """A thing that answers nothing at all."""

    __eq__ = __ne__ = __lt__ = __le__ = __gt__ = __ge__ = __hash__ = __bool__ = __len__ = _raises
    __iter__ = __contains__ = __getitem__ = __getattribute__ = __repr__ = __str__ = __int__ = _raises


class Agreeing:
    """A thing that is like everything and says that it is a text."""

    __class__ = str

    def __eq__(self, other):
        return True

    def __hash__(self):
        return 0

    def __len__(self):
        return 2

    def __iter__(self):
        return iter("an")


class OddText(str):
    __len__ = __iter__ = __lt__ = __gt__ = __le__ = __ge__ = _raises


class OddNumber(int):
    __lt__ = __gt__ = __le__ = __ge__ = __add__ = __radd__ = _raises


class OddTuple(tuple):
    __len__ = __iter__ = __getitem__ = _raises


class OddList(list):
    __len__ = __iter__ = __getitem__ = _raises


class OddDict(dict):
    __len__ = __iter__ = __getitem__ = items = keys = get = _raises


def deep_list(depth):
    found = []
    for _ in range(depth):
        found = [found]
    return found


def list_in_itself():
    found = []
    found.append(found)
    return found


ODD = [
    None, True, False, 0, 1, -1, 7, 10**25, 10**5000, -10**25, 1j, "", "a", "rain", "abcdefgh", "abcdefghi",
    "A", "an wet", "an.wet", "a1", "\u00e9t\u00e9", "\ud800", "x" * 100000, b"an", (), (1,), ("an",),
    ("an", "wet"), ("an", "bo"), ("an", "wet", "wet"), ("an", ""), ("an", None), ["an", "wet"], [], [None],
    [[]], [("an", "wet")], [("an", "wet"), ("an", "wet")], [("zo", "wet"), ("an", "wet")],
    [(("an", "wet"), -1)], {}, {"an": "wet"}, {("an", "wet"): 0}, {("an", "wet"): True}, set(), {("an", "wet")},
    frozenset(), bytearray(b"an"), range(3), iter([]), (part for part in []), object(), object, str, len,
    deep_list(100000), list_in_itself(), Hostile(), [Hostile()], (Hostile(), Hostile()), Agreeing(),
    (Agreeing(), "wet"), OddText("an"), (OddText("an"), "wet"), OddNumber(1), OddTuple(("an", "wet")),
    OddList([("an", "wet")]), OddDict({("an", "wet"): 0}), Exception("an"), NotImplemented, Ellipsis,
]


def changed(thing):
    """All kinds of things, and such as differ from a good one in one part, at any depth."""
    yield from ODD
    if type(thing) in (tuple, list):
        yield from _changed_row(thing, type(thing))
    if type(thing) == dict:
        yield list(thing.items())
        yield from _changed_dict(thing)


def _changed_row(row, kind):
    parts = list(row)
    yield tuple(parts) if kind == list else parts
    for at, part in enumerate(parts):
        yield kind(parts[:at] + parts[at + 1:])
        yield kind(parts[:at] + [part] + parts[at:])
        for other in changed(part):
            yield kind(parts[:at] + [other] + parts[at + 1:])
    yield kind(parts[::-1])
    yield kind(parts + [None])


def _changed_dict(good):
    for key, worth in good.items():
        rest = {other: good[other] for other in good if other != key}
        for other in changed(worth):
            yield {**rest, key: other}
        for other in changed(key):
            try:
                hash(other)
            except (TypeError, RuntimeError):
                continue
            yield {**rest, other: worth}


def copied(thing, depth=30):
    """A copy of the lists, tuples and dicts in a thing."""
    if depth and type(thing) in (tuple, list):
        return type(thing)([copied(part, depth - 1) for part in thing])
    if depth and type(thing) == dict:
        return {key: copied(worth, depth - 1) for key, worth in thing.items()}
    return thing


def same(thing, other, depth=30):
    """Whether two things are the same, kind for kind, and dicts filled alike."""
    if thing is other:
        return True
    if type(thing) != type(other):
        return False
    if depth and type(thing) in (tuple, list):
        return len(thing) == len(other) and all(same(*pair, depth - 1) for pair in zip(thing, other))
    if depth and type(thing) == dict:
        return same(list(thing), list(other)) and all(same(thing[key], other[key], depth - 1) for key in thing)
    return type(thing) in (int, str, bytes, bool) and thing == other


def spoil(told):
    """Do to a told thing what its asker may do."""
    if type(told) == list:
        told.reverse()
        told.append(None)
    if type(told) == dict:
        for key in told:
            told[key] = None
        told["spoiled"] = None


def spoil_all(told):
    """Do so to all lists and dicts within a told thing, too."""
    if type(told) in (tuple, list):
        for part in told:
            spoil_all(part)
    if type(told) == dict:
        for part in told.values():
            spoil_all(part)
    spoil(told)


def lists_in(told):
    """All lists and dicts in a told thing, itself too."""
    found = [told] if type(told) in (list, dict) else []
    for part in told.values() if type(told) == dict else told if type(told) in (tuple, list) else []:
        found += lists_in(part)
    return found


class Asking(unittest.TestCase):
    """Tests that look after what is handed in and what is told."""

    def ask(self, function, *handed):
        """What is told: twice the same, never one thing, and nothing handed in changed."""
        before = copied(handed)
        told = function(*handed)
        kept = copied(told)
        again = function(*handed)
        self.assertTrue(same(told, again), "the same asked again is answered otherwise")
        if type(told) in (list, dict):
            self.assertIsNot(told, again)
            spoil(told)
            self.assertTrue(same(again, kept))
            self.assertTrue(same(function(*handed), kept), "what was done to a told thing changed a later one")
        self.assertTrue(same(handed, before), "what was handed in is changed")
        return kept

    def tells(self, expected, function, *handed):
        """It tells just this, kind for kind; of a dict no order is asked."""
        told = self.ask(function, *handed)
        self.assertIs(type(told), type(expected))
        self.assertEqual(told, expected)
        if type(told) == dict:
            told = {key: told[key] for key in expected}
        self.assertTrue(same(told, expected), "the kinds differ")

    def refuses(self, name, function, *handed):
        """It is refused with just this class, and nothing handed in is changed."""
        before = copied(handed)
        try:
            function(*handed)
        except errors.LeanError as refusal:
            self.assertIs(type(refusal), getattr(errors, name))
            self.assertIsInstance(refusal, ValueError)
            stands_under = [other for other in REFUSALS if isinstance(refusal, getattr(errors, other))]
            self.assertEqual(stands_under, [name])
        else:
            self.fail(f"not refused with {name}")
        self.assertTrue(same(handed, before), "what was handed in is changed")
