"""The words of DOC.md for nets (21 to 24), written down plainly over the plain hands, to hold the program against."""

from tests import plain
from tests.plain_hand import PlainHand, Refused


def refuse(name, whether):
    if whether:
        raise Refused(name)


class PlainNet:
    """All letters of the net lie in one row, (from, to, letter), as they went."""

    def __init__(self):
        self.by_name = {}
        self.joined = set()  # of (lesser, greater)
        self.post = []
        self.done = []  # of (hand, what, told) of all hands, as they came

    def hand(self, name):
        refuse("NoHand", not plain.is_name(name) or name not in self.by_name)
        return self.by_name[name]

    def do(self, name, what):
        """Let a hand do a what of a log, and put its letters behind all that lie."""
        word, *rest = what
        if word == "lean":
            saying, cost, premises = rest
            number, told = self.by_name[name].do("lean", saying, premises, cost)
            what = (word, saying, cost, tuple(premises))
        else:
            number, told = None, self.by_name[name].do(word, *rest)
        self.done.append((name, what, tuple(told)))
        self.post += [(name, to, letter) for to, letter in told]
        return number

    def come(self, hand):
        refuse("NoName", not plain.is_name(hand))
        refuse("Twice", hand in self.by_name)
        self.by_name[hand] = PlainHand(hand)

    def road(self, hand, other):
        self.hand(hand)
        self.hand(other)
        refuse("NoHand", hand == other)
        return (min(hand, other), max(hand, other))

    def join(self, hand, other):
        lesser, greater = self.road(hand, other)
        refuse("Twice", (lesser, greater) in self.joined)
        self.joined.add((lesser, greater))
        self.do(lesser, ("join", greater))
        self.do(greater, ("join", lesser))

    def part(self, hand, other):
        lesser, greater = self.road(hand, other)
        refuse("NoRoad", (lesser, greater) not in self.joined)
        self.joined.remove((lesser, greater))
        self.do(lesser, ("part", greater))
        self.do(greater, ("part", lesser))
        self.post = [row for row in self.post if {row[0], row[1]} != {hand, other}]

    def vouch(self, hand, saying):
        self.hand(hand)
        self.do(hand, ("vouch", saying))

    def withdraw(self, hand, saying):
        self.hand(hand)
        self.do(hand, ("withdraw", saying))

    def lean(self, hand, saying, premises, *, cost=1):
        self.hand(hand)
        refuse("NoRule", not plain.is_rule((hand, saying, cost, premises)))
        return self.do(hand, ("lean", saying, cost, premises))

    def drop(self, hand, number):
        self.hand(hand)
        self.do(hand, ("drop", number))

    def step(self, hand, other):
        self.hand(hand)
        self.hand(other)
        lane = [row for row in self.post if row[:2] == (hand, other)]
        refuse("Empty", not lane)
        self.post.remove(lane[0])
        self.do(other, ("hear", hand, lane[0][2]))

    def rest(self):
        many = 0
        while self.post:
            self.step(*min(row[:2] for row in self.post))
            many += 1
        return many

    def hands(self):
        return sorted(self.by_name)

    def roads(self):
        return sorted(self.joined)

    def world(self):
        vouched = [(name, saying) for name, hand in self.by_name.items() for saying in hand.vouched]
        rules = []
        for name in self.hands():
            for rule in self.by_name[name].rules:
                if rule is not None:
                    saying, cost, premises = rule
                    rules.append((name, saying, cost, list(premises)))
        return (sorted(vouched), rules, sorted(self.joined))

    def heights(self):
        return {
            (name, saying): height
            for name, hand in self.by_name.items() for saying, height in hand.settled.items()
        }

    def open_places(self):
        return sorted((name, saying) for name, hand in self.by_name.items() for saying in hand.causes)

    def lying(self):
        return len(self.post)

    def lane(self, hand, other):
        self.hand(hand)
        self.hand(other)
        return [letter for one, two, letter in self.post if (one, two) == (hand, other)]

    def at(self, place):
        refuse("NoPlace", not plain.is_place(place))
        return self.hand(place[0])

    def leans_on(self, place):
        hand = self.at(place)
        number = hand.reason(place[1])
        return [] if number in (None, -1) else list(hand.rules[number][2])

    def ring(self):
        return None

    def why(self, place):
        refuse("Busy", self.post)
        self.at(place)
        world = self.world()
        refuse("NotHeld", place not in plain.least(world))
        return plain.why(world, place)

    def opened_at(self, place):
        hand = self.at(place)
        refuse("NotOpen", place[1] not in hand.causes)
        return hand

    def blame(self, place):
        cause = self.opened_at(place).causes[place[1]]
        return [place] if cause is None else [place] + self.blame(cause)

    def waits_for(self, place):
        awaited = self.opened_at(place).awaited
        hand, saying = place
        other = min(one for what, one in awaited if what == saying)
        if (hand, other, ("open", saying)) in self.post:
            return ([place], (hand, other))
        if (other, hand, ("heard", saying)) in self.post:
            return ([place], (other, hand))
        first = min(row[2] for row in self.by_name[other].owed if row[:2] == place)
        places, lane = self.waits_for((other, first))
        return ([place] + places, lane)

    def log(self, hand):
        self.hand(hand)
        rows = [(what, list(told)) for name, what, told in self.done if name == hand]
        return [((*what[:3], list(what[3])) if what[0] == "lean" else what, told) for what, told in rows]

    def of(self, hand, saying, key):
        told = self.hand(hand).view([saying] if plain.is_name(saying) else [])
        refuse("NoName", not plain.is_name(saying))
        return told[key, saying]

    def height(self, hand, saying):
        return self.of(hand, saying, "height")

    def reason(self, hand, saying):
        return self.of(hand, saying, "reason")

    def awaited(self, hand, saying):
        return self.of(hand, saying, "awaited")

    def cause(self, hand, saying):
        return self.of(hand, saying, "cause")

    def owed(self, hand):
        return self.hand(hand).view([])["owed",]

    def turns(self, hand):
        return self.hand(hand).view([])["turns",]

    def heard_of(self, hand, neighbour):
        told = self.hand(hand).view([])
        refuse("NoRoad", not plain.is_name(neighbour) or ("heard_of", neighbour) not in told)
        return told["heard_of", neighbour]
