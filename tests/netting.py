"""How the tests drive nets: each beside its plain second writing, deed by deed."""

import random
import types

from leanfar import errors
from leanfar.nets import Net
from tests.asking import copied, same, spoil_all
from tests.driving import any_deed
from tests.plain_hand import Refused
from tests.plain_net import PlainNet

NAMES = ["bo", "an", "jo", "cy", "ida", "di", "hal", "ed", "gus", "flo"]
SAYINGS = ["dry", "ice", "wet"]
DEEDS = ["come", "join", "part", "vouch", "withdraw", "lean", "drop", "step", "rest"]

OF_NET = ["hands", "roads", "world", "heights", "open_places", "lying", "ring"]
OF_HAND = ["log", "owed", "turns"]
OF_TWO = ["lane", "heard_of"]
OF_PLACE = ["leans_on", "why", "blame", "waits_for"]
OF_SAYING = ["height", "reason", "awaited", "cause"]


def outcome(net, what, *rest, **more):
    """What a net tells, or the name of the class that it refuses with."""
    try:
        return getattr(net, what)(*rest, **more)
    except Refused as refusal:
        return str(refusal)
    except errors.LeanError as refusal:
        return type(refusal).__name__


def alike(told, expected):
    """Whether these are the same, kind for kind, however dicts were filled."""
    if type(told) == type(expected) == dict:
        return same(sorted(told.items()), sorted(expected.items()))
    return same(told, expected)


def questions(names, sayings):
    """All that can be asked of a net with these hands."""
    asked = [(what,) for what in OF_NET]
    asked += [(what, name) for what in OF_HAND for name in names]
    asked += [(what, name, other) for what in OF_TWO for name in names for other in names]
    places = [(name, saying) for name in names for saying in sayings]
    asked += [(what, place) for what in OF_PLACE for place in places]
    asked += [(what, *place) for what in OF_SAYING for place in places]
    return asked


def view(net, names, sayings=SAYINGS):
    """All that a net tells, by what is asked; what is told is then spoiled, as its asker may."""
    told = {}
    for asked in questions(names, sayings):
        answer = outcome(net, *asked)
        told[asked] = copied(answer)
        spoil_all(answer)
    return told


def same_views(told, expected):
    """The first question that is answered otherwise, None where there is none."""
    for asked in expected:
        if not alike(told[asked], expected[asked]):
            return f"{asked} tells {told[asked]}, not {expected[asked]}"
    return None


class NetPair:
    """A net and its plain second writing, that must tell the same, deed by deed."""

    def __init__(self, sayings=SAYINGS):
        self.net = Net()
        self.plain = PlainNet()
        self.sayings = sayings

    def names(self):
        return sorted(self.plain.by_name)

    def do(self, what, *rest, **more):
        """Do a deed: what it tells, or the name of the class that it is refused with."""
        before = copied(rest)
        expected = outcome(self.plain, what, *rest, **more)
        told = outcome(self.net, what, *rest, **more)
        if not same(told, expected):
            raise AssertionError(f"{what} {rest} tells {told}, not {expected}")
        if not same(rest, before):
            raise AssertionError(f"{what} changed what was handed in")
        if what == "lean":
            # The premises are their owner's still, to change as he likes.
            spoil_all(rest)
        return told

    def check(self):
        """Hold all that is told against the plain writing."""
        names = self.names() + ["nobody"]
        wrong = same_views(view(self.net, names, self.sayings), view(self.plain, names, self.sayings))
        if wrong is not None:
            raise AssertionError(wrong)

    def lanes(self):
        """The lanes where any letter lies."""
        return sorted({row[:2] for row in self.plain.post})


def some_deed(pair, chance, growing=False, hands=4):
    """Any deed that is not refused, but a step or a rest; None where the first choice has none."""
    names = pair.names()
    roll = chance.random()
    missing = [name for name in NAMES[:hands] if name not in names]
    if missing and (not names or roll < 0.15):
        return ("come", missing[0])
    if len(names) > 1 and roll < 0.3:
        hand, other = chance.sample(names, 2)
        if (min(hand, other), max(hand, other)) not in pair.plain.joined:
            return ("join", hand, other)
        return None if growing or chance.random() < 0.5 else ("part", hand, other)
    name = chance.choice(names)
    shim = types.SimpleNamespace(plain=pair.plain.by_name[name], sayings=pair.sayings)
    deed = any_deed(shim, chance, names, growing)
    return None if deed is None else (deed[0], name, *deed[1:])


def do_deed(pair, deed):
    if deed[0] == "lean":
        return pair.do(*deed[:4], cost=deed[4])
    return pair.do(*deed)


def driven_net(seed, deeds, hands=4, growing=False, check=None, sayings=SAYINGS):
    """A pair driven by a seed through deeds and steps in any weaving, and check asked behind each."""
    chance = random.Random(seed)
    pair = NetPair(sayings)
    for _ in range(deeds):
        if pair.lanes() and chance.random() < 0.5:
            pair.do("step", *chance.choice(pair.lanes()))
        else:
            deed = some_deed(pair, chance, growing, hands)
            if deed is None:
                continue
            do_deed(pair, deed)
        if check is not None:
            check(pair)
    return pair
