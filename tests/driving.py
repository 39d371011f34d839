"""How the tests drive hands: each beside its plain second writing, alone or several with lanes between them."""

import random

from leanfar import errors
from leanfar.hands import Hand
from tests import plain
from tests.asking import copied, same, spoil
from tests.plain_hand import PlainHand, Refused

SAYINGS = ["dry", "ice", "map", "wet"]
TELLERS = ["name", "neighbours", "settled", "open_ones", "rules", "vouched", "owed", "turns"]


def view(hand, sayings):
    """All that a hand tells, by the names under which it is asked, with what is asked."""
    told = {(name,): getattr(hand, name)() for name in TELLERS}
    for neighbour in hand.neighbours() + [hand.name()]:
        told["heard_of", neighbour] = hand.heard_of(neighbour)
    for saying in sayings:
        for name in ["height", "reason", "awaited", "cause"]:
            told[name, saying] = getattr(hand, name)(saying)
    return told


class Pair:
    """A hand and its plain second writing, that must tell the same, deed by deed."""

    def __init__(self, name, sayings=SAYINGS):
        self.hand = Hand(name)
        self.plain = PlainHand(name)
        self.sayings = list(sayings)
        # As a net would keep it (24).
        self.log = []
        self.check("made")

    def check(self, when):
        told = view(self.hand, self.sayings)
        expected = self.plain.view(self.sayings)
        for asked in expected:
            if not same(told[asked], expected[asked]):
                raise AssertionError(f"{when}: {asked} tells {told[asked]}, not {expected[asked]}")
        if told.keys() != expected.keys():
            raise AssertionError(f"{when}: other things are told")
        for thing in told.values():
            spoil(thing)
            for part in thing if type(thing) == list else []:
                for below in part if type(part) == tuple else []:
                    spoil(below)

    def do(self, what, *rest):
        """Do a deed: what it tells, or the name of the class that it is refused with."""
        before = copied(rest)
        try:
            expected = self.plain.do(what, *rest)
        except Refused as refusal:
            expected = str(refusal)
        try:
            told = self.call(what, *rest)
        except errors.LeanError as refusal:
            told = type(refusal).__name__
        if not same(told, expected):
            raise AssertionError(f"{what} tells {told}, not {expected}")
        if not same(rest, before):
            raise AssertionError(f"{what} changed what was handed in")
        kept = copied(told)
        if type(told) != str:
            self.note(what, before, kept)
        spoil(told[1] if type(told) == tuple else told)
        if what == "lean" and type(told) == tuple:
            # The premises are their owner's still, to change as he likes.
            spoil(rest[1])
        self.check(what)
        return kept

    def note(self, what, rest, told):
        if what == "lean":
            saying, premises, cost = rest if len(rest) == 3 else rest + (1,)
            self.log.append(((what, saying, cost, premises), told[1]))
        else:
            self.log.append(((what, *rest), told))

    def call(self, what, *rest):
        if what == "lean" and len(rest) == 3:
            return self.hand.lean(rest[0], rest[1], cost=rest[2])
        return getattr(self.hand, what)(*rest)


class Group:
    """Several pairs, and the letters that lie between them."""

    def __init__(self, names, sayings=SAYINGS):
        self.pairs = {name: Pair(name, sayings) for name in names}
        self.lanes = {}
        self.heard = []

    def send(self, name, letters):
        for to, letter in letters:
            self.lanes[name, to].append(letter)

    def do(self, name, what, *rest):
        told = self.pairs[name].do(what, *rest)
        self.send(name, told[1] if what == "lean" else told)

    def join(self, hand, other):
        self.lanes[hand, other] = []
        self.lanes[other, hand] = []
        self.send(hand, self.pairs[hand].do("join", other))
        self.send(other, self.pairs[other].do("join", hand))

    def part(self, hand, other):
        # The road goes with all that lies on it.
        del self.lanes[hand, other]
        del self.lanes[other, hand]
        for one, neighbour in [(hand, other), (other, hand)]:
            self.send(one, self.pairs[one].do("part", neighbour))

    def step(self, hand, other):
        letter = self.lanes[hand, other].pop(0)
        self.heard.append((hand, other, letter))
        self.do(other, "hear", hand, letter)

    def waiting(self):
        return sorted(lane for lane in self.lanes if self.lanes[lane])

    def rest(self, chance, check=None):
        steps = 0
        while self.waiting():
            self.step(*chance.choice(self.waiting()))
            if check is not None:
                check()
            steps += 1
            if steps > 20000:
                raise AssertionError("the letters do not end")

    def roads(self):
        return sorted(lane for lane in self.lanes if lane[0] < lane[1])

    def world(self):
        vouched = []
        rules = []
        for name, pair in sorted(self.pairs.items()):
            vouched += [(name, saying) for saying in pair.hand.vouched()]
            rules += [(name, saying, cost, premises) for _, saying, cost, premises in pair.hand.rules()]
        return (vouched, rules, self.roads())

    def heights(self):
        return {
            (name, saying): height for name, pair in self.pairs.items() for saying, height in pair.hand.settled()
        }

    def open_places(self):
        return [(name, saying) for name, pair in self.pairs.items() for saying in pair.hand.open_ones()]

    def leans_on(self, place):
        """What a place leans on by its hand's reason."""
        hand = self.pairs[place[0]].hand
        number = hand.reason(place[1])
        if number is None or number == -1:
            return []
        return [premises for other, _, _, premises in hand.rules() if other == number][0]


def may_be_heard(pair, chance):
    """Any letter that a hand may hear, of those of which something is promised; None where it has no neighbour."""
    hand = pair.plain
    if not hand.neighbours:
        return None
    neighbour = chance.choice(sorted(hand.neighbours))
    letters = []
    owed = {row[1] for row in hand.owed if row[0] == neighbour}
    for saying in pair.sayings:
        known = hand.heard.get((neighbour, saying))
        if saying not in owed and (known is None or known > 0):
            height = chance.randint(0, 6) if known is None else chance.randint(0, known - 1)
            letters += [("holds", saying, height)] * (3 if known is None else 1)
        if known is not None:
            letters += [("open", saying)]
        if (saying, neighbour) in hand.awaited:
            letters += [("heard", saying)] * 3
    return (neighbour, chance.choice(letters)) if letters else None


def any_deed(pair, chance, hands, growing=False):
    """Any deed of a hand but to join, part and hear, that is not refused; None where there is none."""
    hand = pair.plain
    kinds = ["vouch", "lean", "lean"] if growing else ["vouch", "lean", "lean", "withdraw", "withdraw", "drop"]
    what = chance.choice(kinds)
    free = [saying for saying in pair.sayings if saying not in hand.vouched]
    numbers = [number for number, rule in enumerate(hand.rules) if rule is not None]
    if what == "vouch" and free and len(hand.vouched) < 2:
        return ("vouch", chance.choice(free))
    if what == "withdraw" and hand.vouched:
        return ("withdraw", chance.choice(sorted(hand.vouched)))
    if what == "drop" and numbers:
        return ("drop", chance.choice(numbers))
    if what == "lean" and len(numbers) < 10:
        near = [(name, saying) for name in sorted(set(hands) | {hand.name}) for saying in pair.sayings]
        premises = chance.sample(near, min(len(near), chance.choice([1, 1, 1, 2, 2, 3])))
        return ("lean", chance.choice(pair.sayings), premises, chance.randint(1, 3))
    return None


def driven_alone(seed, deeds, hands=("bo", "cy", "di")):
    """A pair driven by a seed through deeds and letters, told after each one."""
    chance = random.Random(seed)
    pair = Pair("cat" if seed % 2 else "an")
    for _ in range(deeds):
        roll = chance.random()
        if roll < 0.06 and len(pair.plain.neighbours) < len(hands):
            pair.do("join", chance.choice([hand for hand in hands if hand not in pair.plain.neighbours]))
        elif roll < 0.10 and pair.plain.neighbours:
            pair.do("part", chance.choice(sorted(pair.plain.neighbours)))
        elif roll < 0.60:
            heard = may_be_heard(pair, chance)
            if heard is not None:
                pair.do("hear", *heard)
        else:
            deed = any_deed(pair, chance, hands)
            if deed is not None:
                pair.do(*deed)
    return pair
