"""Point 4, of nets driven through any weaving of deeds and letters; and each net beside its plain second writing."""

import random
import unittest

from leanfar import reading
from leanfar.nets import Net
from leanfar.worlds import named
from tests import plain
from tests.netting import NAMES, NetPair, do_deed, driven_net, some_deed


def union(worlds):
    """The world of all that stands in any of these."""
    parts = [{}, {}, {}]
    for world in worlds:
        for part, found in zip(world, parts):
            for one in part:
                found[repr(one)] = one
    return tuple(list(found.values()) for found in parts)


class Watch:
    """Looks at a net at every moment, and holds what it sees against point 4."""

    def __init__(self, test, net):
        self.test = test
        self.net = net
        self.stood = []
        # By open places, at which of its givings up each cause was seen.
        self.causes = {}

    def moment(self):
        if self.net.lying() == 0:
            self.stood = []
        world = self.net.world()
        if world not in self.stood:
            self.stood.append(world)
        self.no_ring()
        self.nothing_out_of_nothing()
        self.causes_are_open()
        self.answered_once()
        self.waited_for()
        if self.net.lying() == 0:
            self.at_rest(world)

    def no_ring(self):
        heights = self.net.heights()
        for place in heights:
            for premise in self.net.leans_on(place):
                if premise in heights:
                    self.test.assertLess(heights[premise], heights[place])
        self.test.assertIsNone(self.net.ring())

    def nothing_out_of_nothing(self):
        lowest = reading.least(union(self.stood))
        for place, height in self.net.heights().items():
            self.test.assertIn(place, lowest)
            self.test.assertGreaterEqual(height, lowest[place])

    def givings_up(self, place):
        return sum(1 for saying, height, _ in self.net.turns(place[0]) if saying == place[1] and height is None)

    def causes_are_open(self):
        """What was given up by hearing of another's giving up is closed ahead of that one."""
        seen = {}
        for place in self.net.open_places():
            cause = self.net.cause(*place)
            if cause is not None:
                self.test.assertIn(cause, self.net.open_places())
                seen[place, self.givings_up(place)] = (cause, self.givings_up(cause))
        for key in seen:
            self.test.assertEqual(seen[key], self.causes.get(key, seen[key]))
        self.causes = seen

    def answered_once(self):
        """As long as the road stays, each giving up that is heard is answered once, at last by rest."""
        for hand in self.net.hands():
            waiting = {}
            for what, told in self.net.log(hand):
                if what[0] == "hear" and what[2][0] == "open":
                    key = (what[1], what[2][1])
                    self.test.assertNotIn(key, waiting)
                    waiting[key] = True
                if what[0] == "part":
                    waiting = {key: True for key in waiting if key[0] != what[1]}
                for neighbour, letter in told:
                    if letter[0] == "heard":
                        self.test.assertIn((neighbour, letter[1]), waiting)
                        del waiting[neighbour, letter[1]]
            owed = [row[:2] for row in self.net.owed(hand) if row[0] != hand]
            self.test.assertEqual(sorted(waiting), owed)

    def waited_for(self):
        """Each open place is shown by the row that led to it, and by the letter that it waits for."""
        for place in self.net.open_places():
            row = self.net.blame(place)
            self.test.assertEqual(row[0], place)
            self.test.assertIsNone(self.net.cause(*row[-1]))
            for one, following in zip(row, row[1:]):
                self.test.assertEqual(self.net.cause(*one), following)
            row, lane = self.net.waits_for(place)
            self.test.assertEqual(row[0], place)
            self.test.assertIn(row[-1][0], lane)
            for one, following in zip(row, row[1:]):
                self.test.assertEqual(self.net.cause(*following), one)
            kind = "open" if lane[0] == row[-1][0] else "heard"
            self.test.assertIn((kind, row[-1][1]), self.net.lane(*lane))

    def at_rest(self, world):
        self.test.assertEqual(self.net.open_places(), [])
        heights = self.net.heights()
        self.test.assertEqual(heights, plain.least(world))
        self.test.assertEqual(heights, reading.least(world))
        for hand in self.net.hands():
            self.test.assertEqual(self.net.owed(hand), [])
            for other in self.near(hand):
                settled = [(place[1], heights[place]) for place in sorted(heights) if place[0] == other]
                self.test.assertEqual(self.net.heard_of(hand, other), settled)
        for place in named(world):
            self.shown(world, place, heights)

    def near(self, hand):
        return [hand] + [other for road in self.net.roads() if hand in road for other in road if other != hand]

    def shown(self, world, place, heights):
        """Whether it is believed or not, the papers show it, and reasons lead to the same rules."""
        if place in heights:
            paper = self.net.why(place)
            self.test.assertEqual(paper, reading.why(world, place))
            self.test.assertTrue(reading.why_shows(world, place, paper))
            number = reading.reason_of(world, place)
            premises = [] if number == -1 else world[1][number][3]
            self.test.assertEqual(self.net.leans_on(place), premises)
            self.test.assertEqual(self.net.reason(*place) == -1, number == -1)
        else:
            self.test.assertTrue(reading.why_not_shows(world, place, reading.why_not(world, place)))
            if place[0] in self.net.hands():
                self.test.assertEqual((self.net.height(*place), self.net.leans_on(place)), (None, []))


class Beside(unittest.TestCase):
    """Nets of one to ten hands, held against the plain second writing of points 15 to 24."""

    def test_step_by_step(self):
        chance = random.Random(0)
        for seed in range(40):
            pair = driven_net(
                seed, 90, hands=1 + seed % 6, check=lambda pair: pair.check() if chance.random() < 0.3 else None
            )
            pair.check()
            pair.do("rest")
            pair.check()

    def test_of_ten_hands(self):
        for seed in range(4):
            pair = driven_net(seed, 250, hands=10, sayings=["ice", "wet"])
            self.assertEqual(len(pair.names()), 10)
            pair.check()
            pair.do("rest")
            pair.check()

    def test_the_same_deeds_are_answered_the_same(self):
        for seed in range(5):
            first, second = [driven_net(seed, 80).net for _ in range(2)]
            for name in first.hands():
                self.assertEqual(repr(first.log(name)), repr(second.log(name)))
            self.assertEqual(repr(first.heights()), repr(second.heights()))


class Moments(unittest.TestCase):
    """What point 4 says, of every moment."""

    def test_at_every_moment(self):
        busy = 0
        for seed in range(40):
            chance = random.Random(seed)
            pair = NetPair(["ice", "wet"] if seed % 2 else ["dry", "ice", "wet"])
            watch = Watch(self, pair.net)
            for _ in range(3):
                self.disturb(pair, chance, watch, 40)
                busy += len(pair.net.open_places()) > 0
                self.come_to_rest(pair, chance, watch)
        self.assertGreater(busy, 20)

    def disturb(self, pair, chance, watch, deeds, growing=False):
        for _ in range(deeds):
            if pair.lanes() and chance.random() < 0.4:
                pair.do("step", *chance.choice(pair.lanes()))
            else:
                deed = some_deed(pair, chance, growing, 5)
                if deed is not None:
                    self.do_watched(pair, deed)
            watch.moment()

    def come_to_rest(self, pair, chance, watch):
        """In whatever order: by rest itself, from one end only, or by chance."""
        way = chance.randint(0, 3)
        many = 0
        while pair.lanes():
            if way == 0:
                pair.do("rest")
            else:
                lane = pair.lanes()[-1] if way == 1 else chance.choice(pair.lanes())
                self.do_watched(pair, ("step", *lane))
            watch.moment()
            many += 1
            self.assertLess(many, 20000, "the letters do not end")

    def do_watched(self, pair, deed):
        """Do a deed, and see that it gives nothing up for nothing (e)."""
        net = pair.net
        name = deed[2] if deed[0] == "step" else deed[1]
        if deed[0] in ("come", "join", "part"):
            do_deed(pair, deed)
            return
        heights = net.heights()
        heard = self.heard_by(net, name)
        if deed[0] == "step":
            letter = net.lane(deed[1], name)[0]
            if letter[0] == "holds":
                heard[deed[1], letter[1]] = letter[2]
            if letter[0] == "open":
                del heard[deed[1], letter[1]]
        before = len(net.turns(name))
        do_deed(pair, deed)
        vouched, rules, _ = net.world()
        for saying, height, cause in net.turns(name)[before:]:
            # What it heard itself within the deed is not seen from here: only what came of no own letter.
            if height is not None or (cause is not None and cause[0] == name):
                continue
            self.assertNotIn((name, saying), vouched)
            for hand, leaning, cost, premises in rules:
                if (hand, leaning) == (name, saying) and all(premise in heard for premise in premises):
                    given = cost + max(heard[premise] for premise in premises)
                    if (hand, leaning) in heights:
                        self.assertGreater(given, heights[hand, leaning])

    def heard_by(self, net, name):
        roads = [road for road in net.roads() if name in road]
        near = [name] + [other for road in roads for other in road if other != name]
        return {(other, saying): height for other in near for saying, height in net.heard_of(name, other)}

    def test_where_all_only_grows_nothing_is_given_up(self):
        for seed in range(20):
            chance = random.Random(seed)
            pair = NetPair()
            watch = Watch(self, pair.net)
            self.disturb(pair, chance, watch, 60, growing=True)
            self.come_to_rest(pair, chance, watch)
            for name in pair.names():
                lowest = {}
                for saying, height, cause in pair.net.turns(name):
                    self.assertIsNotNone(height)
                    self.assertIsNone(cause)
                    self.assertLess(height, lowest.get(saying, height + 1))
                    lowest[saying] = height

    def test_whatever_the_weaving_the_rest_is_the_same(self):
        for seed in range(12):
            told = []
            for weaving in range(4):
                told.append(self.rest_of_rows(seed, weaving))
            for heights in told[1:]:
                self.assertEqual(heights, told[0])

    def rest_of_rows(self, seed, weaving):
        """The same deeds, with letters heard between them as another chance has it: the heights at rest."""
        deeds = random.Random(seed)
        chance = random.Random(weaving)
        net = Net()
        for name in NAMES[:4]:
            net.come(name)
        for hand, other in [("an", "bo"), ("bo", "cy"), ("cy", "jo"), ("an", "jo")]:
            net.join(hand, other)
        near = [(name, saying) for name in NAMES[:4] for saying in ["ice", "wet", "dry"]]
        vouched = {}
        for _ in range(60):
            name, saying = deeds.choice(near)
            if deeds.random() < 0.6:
                net.lean(name, saying, deeds.sample(near, deeds.choice([1, 1, 2])), cost=deeds.randint(1, 3))
            elif vouched.pop((name, saying), False):
                net.withdraw(name, saying)
            else:
                vouched[name, saying] = True
                net.vouch(name, saying)
            for _ in range(chance.randint(0, 6)):
                lanes = [(hand, other) for hand in NAMES[:4] for other in NAMES[:4] if net.lane(hand, other)]
                if lanes:
                    net.step(*chance.choice(lanes))
        net.rest()
        return net.heights()

    def test_a_long_ring_that_loses_what_it_rests_on(self):
        """Beliefs on rings must not hold one another up, however long the letters lie."""
        for hands in [2, 3, 10]:
            net = Net()
            names = sorted(NAMES)[:hands]
            for name in names:
                net.come(name)
            ring = list(zip(names, names[1:] + names[:1]))
            for hand, other in ring[:1] if hands == 2 else ring:
                net.join(hand, other)
            for hand, other in ring:
                net.lean(hand, "wet", [(other, "wet")])
            net.vouch(names[0], "wet")
            net.rest()
            self.assertEqual(len(net.heights()), hands)
            net.withdraw(names[0], "wet")
            self.assertLess(net.rest(), 20 * hands)
            self.assertEqual((net.heights(), net.open_places()), ({}, []))
