"""Hands driven by many rows of deeds and letters, and what point 4 promises of them."""

import random
import unittest

from leanfar.hands import Hand
from tests import plain
from tests.asking import same
from tests.driving import Group, Pair, any_deed, driven_alone, may_be_heard, view

# More than any height here.
NEVER = 10**30


def given_up(pair):
    """How many givings up a hand's turns tell."""
    return sum(1 for _, height, _ in pair.hand.turns() if height is None)


class Driven(unittest.TestCase):
    """Beside the plain second writing, step by step (Pair compares)."""

    def test_a_hand_with_neighbours_that_say_anything(self):
        causes = set()
        for seed in range(120):
            pair = driven_alone(seed, 80)
            for _, height, cause in pair.hand.turns():
                if height is None:
                    causes.add("deed" if cause is None else "own" if cause[0] == pair.hand.name() else "neighbour")
        self.assertEqual(causes, {"deed", "own", "neighbour"})

    def test_a_hand_alone_is_always_at_rest(self):
        for seed in range(60):
            chance = random.Random(seed)
            pair = Pair("an")
            for _ in range(40):
                deed = any_deed(pair, chance, ["an"])
                if deed is None:
                    continue
                told = pair.do(*deed)
                self.assertEqual(told[1] if deed[0] == "lean" else told, [])
                hand = pair.hand
                self.assertEqual((hand.open_ones(), hand.owed()), ([], []))
                rules = [("an", saying, cost, premises) for _, saying, cost, premises in hand.rules()]
                heights = plain.least(([("an", saying) for saying in hand.vouched()], rules, []))
                self.assertEqual(hand.settled(), sorted((place[1], heights[place]) for place in heights))
                self.assertEqual(hand.heard_of("an"), hand.settled())

    def test_the_same_deeds_are_answered_the_same(self):
        for seed in range(10):
            first, second = [driven_alone(seed, 60) for _ in range(2)]
            told = [view(pair.hand, pair.sayings) for pair in (first, second)]
            self.assertTrue(same(list(told[0].items()), list(told[1].items())))

    def test_premises_in_any_order_are_looked_at_alike(self):
        for order in [1, -1]:
            hand = Hand("an")
            hand.join("bo")
            for saying in "cab"[::order]:
                hand.lean(saying, [("bo", "a"), ("bo", "b")][::order])
            hand.hear("bo", ("holds", "a", 2))
            expected = [("bo", ("holds", saying, 3)) for saying in "abc"]
            self.assertEqual(hand.hear("bo", ("holds", "b", 1)), expected)


class Together(unittest.TestCase):
    """Several hands, with letters that lie as long as they like."""

    names = ["an", "bo", "cy", "di"]

    def made(self, chance, growing=False):
        group = Group(self.names, ["dry", "ice", "wet"])
        for hand in self.names:
            for other in self.names:
                if hand < other and chance.random() < 0.7:
                    group.join(hand, other)
        for _ in range(24):
            self.some_deed(group, chance, growing=True)
        return group

    def some_deed(self, group, chance, growing):
        name = chance.choice(self.names)
        deed = any_deed(group.pairs[name], chance, self.names, growing)
        if deed is not None:
            group.do(name, *deed)

    def some_road(self, group, chance, growing):
        hand, other = sorted(chance.sample(self.names, 2))
        if (hand, other) not in group.lanes:
            group.join(hand, other)
        elif not growing:
            group.part(hand, other)

    def disturb(self, group, chance, growing=False, check=None):
        for _ in range(chance.randint(1, 12)):
            roll = chance.random()
            if roll < 0.1:
                self.some_road(group, chance, growing)
            elif roll < 0.4 or not group.waiting():
                self.some_deed(group, chance, growing)
            else:
                group.step(*chance.choice(group.waiting()))
            if check is not None:
                check()

    def check_rest(self, group):
        """Point 4 (c)."""
        self.assertEqual(group.open_places(), [])
        self.assertEqual(group.heights(), plain.least(group.world()))
        for name, pair in group.pairs.items():
            self.assertEqual(pair.hand.owed(), [])
            for other in pair.hand.neighbours() + [name]:
                self.assertEqual(pair.hand.heard_of(other), group.pairs[other].hand.settled())

    def check_moment(self, group):
        """Point 4 (a), its first sentence, and of (f) what is told of open places."""
        heights = group.heights()
        for place in heights:
            for premise in group.leans_on(place):
                self.assertTrue(premise not in heights or heights[premise] < heights[place], "the heights do not fall")
        for place in group.open_places():
            row = [place]
            while row[-1] is not None:
                hand = group.pairs[row[-1][0]].hand
                self.assertIn(row[-1][1], hand.open_ones())
                row.append(hand.cause(row[-1][1]))
                self.assertLess(len(row), 20, "a ring of causes")
            self.check_awaited(group, *place)

    def check_awaited(self, group, name, saying):
        """Each answer that is awaited is on its way, or is owed for what is open itself."""
        hand = group.pairs[name].hand
        self.assertNotEqual(hand.awaited(saying), [])
        for other in hand.awaited(saying):
            lies = ("open", saying) in group.lanes.get((name, other), [])
            lies = lies or ("heard", saying) in group.lanes.get((other, name), [])
            owed = [row[2] for row in group.pairs[other].hand.owed() if row[:2] == (name, saying)]
            self.assertEqual(len(owed), 0 if lies else 1)
            for sayings in owed:
                self.assertNotEqual(sayings, [])
                for one in sayings:
                    self.assertIn(one, group.pairs[other].hand.open_ones())

    def test_at_every_moment_and_at_rest(self):
        many = 0
        for seed in range(60):
            chance = random.Random(seed)
            group = self.made(chance)
            for _ in range(4):
                self.disturb(group, chance, check=lambda: self.check_moment(group))
                group.rest(chance, check=lambda: self.check_moment(group))
                self.check_rest(group)
            many += sum(map(given_up, group.pairs.values()))
        self.assertGreater(many, 200)

    def test_where_all_only_grows_nothing_is_given_up(self):
        for seed in range(25):
            chance = random.Random(seed)
            group = self.made(chance, growing=True)
            for _ in range(3):
                self.disturb(group, chance, growing=True)
                group.rest(chance)
                self.check_rest(group)
            for pair in group.pairs.values():
                lowest = {}
                for saying, height, _ in pair.hand.turns():
                    self.assertIsNotNone(height)
                    self.assertLess(height, lowest.get(saying, NEVER))
                    lowest[saying] = height

    def test_each_giving_up_that_is_heard_is_answered_just_once(self):
        for seed in range(40):
            chance = random.Random(seed)
            group = self.made(chance)
            roads = group.roads()
            for _ in range(30):
                if group.waiting() and chance.random() < 0.5:
                    group.step(*chance.choice(group.waiting()))
                else:
                    self.some_deed(group, chance, growing=False)
            group.rest(chance)
            self.assertEqual(group.roads(), roads)
            for hand, other, letter in group.heard:
                if letter[0] == "open":
                    givings_up = group.heard.count((hand, other, letter))
                    self.assertEqual(group.heard.count((other, hand, ("heard", letter[1]))), givings_up)

    def test_nothing_is_given_up_for_nothing(self):
        """Point 4 (e), by what the hand itself tells ahead of the letter."""
        many = 0
        for seed in range(100):
            chance = random.Random(seed)
            pair = Pair("an")
            pair.do("join", "bo")
            pair.do("join", "cy")
            for _ in range(60):
                deed = any_deed(pair, chance, ["bo", "cy"], growing=chance.random() < 0.8)
                if deed is not None:
                    pair.do(*deed)
                letter = may_be_heard(pair, chance)
                if letter is not None:
                    pair.do("hear", *letter)
            many += sum(self.hear_open(pair, neighbour, chance) for neighbour in ["bo", "cy"])
        self.assertGreater(many, 20)

    def hear_open(self, pair, neighbour, chance):
        """Let it hear a giving up: what the hand gives up itself stood by nothing as low."""
        heard = pair.hand.heard_of(neighbour)
        if not heard:
            return 0
        saying = chance.choice(heard)[0]
        heights = dict(pair.hand.settled())
        known = {(hand, one): height for hand in pair.hand.neighbours() + [pair.hand.name()]
                 for one, height in pair.hand.heard_of(hand)}
        told = pair.do("hear", neighbour, ("open", saying))
        del known[neighbour, saying]
        opened = sorted({letter[1] for _, letter in told if letter[0] == "open"})
        at_once = [one for one in opened if pair.hand.cause(one) == (neighbour, saying)]
        for one in at_once:
            self.assertNotIn(one, pair.hand.vouched())
            for _, leaning, cost, premises in pair.hand.rules():
                if leaning == one and all(premise in known for premise in premises):
                    self.assertGreater(cost + max(known[premise] for premise in premises), heights[one])
        return len(at_once)
