"""A net: hands, the roads between them, and the letters that lie on their lanes."""

from collections import deque
from heapq import heappop, heappush

from leanfar.errors import Busy, Empty, NoHand, NoRoad, NotHeld, NotOpen, Twice
from leanfar.hands import Hand
from leanfar.rings import least_ring
from leanfar.worlds import check_place


class Net:
    """Hands that roads join, each with the log of what it did."""

    def __init__(self):
        """A net without hands."""
        # Names alone are keys here: what is one of these texts need not be judged as a name.
        self._hands = {}
        self._logs = {}
        # Two lanes for each road, by tuples (from, to), whether any letter lies there or not.
        self._lanes = {}
        self._many_lying = 0

    def come(self, hand):
        """Let a hand come."""
        made = Hand(hand)
        if hand in self._hands:
            raise Twice("there is such a hand already")
        self._hands[hand] = made
        self._logs[hand] = []

    def join(self, hand, other):
        """Join two hands by a road."""
        self._check_two(hand, other)
        if (hand, other) in self._lanes:
            raise Twice("a road joins the two already")
        both = sorted([(hand, other), (other, hand)])
        for lane in both:
            self._lanes[lane] = deque()
        for one, neighbour in both:
            self._did(one, ("join", neighbour), self._hands[one].join(neighbour))

    def part(self, hand, other):
        """Part two hands, with all that lies on their road."""
        self._check_two(hand, other)
        if (hand, other) not in self._lanes:
            raise NoRoad("no road joins the two")
        both = sorted([(hand, other), (other, hand)])
        for lane in both:
            self._many_lying -= len(self._lanes[lane])
            del self._lanes[lane]
        for one, neighbour in both:
            self._did(one, ("part", neighbour), self._hands[one].part(neighbour))

    def vouch(self, hand, saying):
        """Let a hand vouch for a saying."""
        told = self._hand(hand).vouch(saying)
        self._did(hand, ("vouch", saying), told)

    def withdraw(self, hand, saying):
        """Let a hand vouch for a saying no more."""
        told = self._hand(hand).withdraw(saying)
        self._did(hand, ("withdraw", saying), told)

    def lean(self, hand, saying, premises, *, cost=1):
        """Let a saying of a hand lean by a new rule, whose number is told."""
        number, told = self._hand(hand).lean(saying, premises, cost=cost)
        self._did(hand, ("lean", saying, cost, list(premises)), told)
        return number

    def drop(self, hand, number):
        """Let a hand drop the rule of this number."""
        told = self._hand(hand).drop(number)
        self._did(hand, ("drop", number), told)

    def step(self, hand, other):
        """Let the first letter from a hand to another one be heard."""
        self._check_hand(hand)
        self._check_hand(other)
        if not self._lanes.get((hand, other), None):
            raise Empty("no letter lies there")
        self._step(hand, other)

    def rest(self):
        """Step until no letter lies, from the least name to the least each time: how many steps."""
        many = 0
        # A list in order is a heap, too: of the lanes where any letter lies.
        waiting = sorted([lane for lane in self._lanes if self._lanes[lane]])
        while waiting:
            hand, other = waiting[0]
            if len(self._lanes[(hand, other)]) == 1:
                heappop(waiting)
            begun = self._step(hand, other)
            for lane in begun:
                heappush(waiting, lane)
            many += 1
        return many

    def hands(self):
        """Its hands, in order."""
        return sorted(self._hands)

    def roads(self):
        """Its roads, the lesser name first, in order."""
        return sorted([(hand, other) for hand, other in self._lanes if hand < other])

    def world(self):
        """The world of all that is vouched, all rules and all roads."""
        vouched = []
        rules = []
        for name in self.hands():
            hand = self._hands[name]
            vouched.extend([(name, saying) for saying in hand.vouched()])
            rules.extend([(name, saying, cost, premises) for _, saying, cost, premises in hand.rules()])
        return vouched, rules, self.roads()

    def heights(self):
        """All settled places with their heights."""
        return {
            (name, saying): height for name in self.hands() for saying, height in self._hands[name].settled()
        }

    def open_places(self):
        """All open places, in order."""
        return [(name, saying) for name in self.hands() for saying in self._hands[name].open_ones()]

    def lying(self):
        """How many letters lie."""
        return self._many_lying

    def lane(self, hand, other):
        """What lies from a hand to another one, the first letter first."""
        self._check_hand(hand)
        self._check_hand(other)
        return list(self._lanes.get((hand, other), []))

    def leans_on(self, place):
        """The premises on which a place leans by its hand's reason."""
        return self._hand_at(place).leans_on(place[1])

    def ring(self):
        """The ring of what its places lean on, None where there is none, as there should be."""
        leanings = {}
        for name, hand in self._hands.items():
            for saying, _ in hand.settled():
                leanings[(name, saying)] = hand.leans_on(saying)
        return least_ring(leanings)

    def why(self, place):
        """The paper that shows why a place is believed, where no letter lies."""
        if self._many_lying:
            raise Busy("letters lie still")
        if self._hand_at(place).height(place[1]) is None:
            raise NotHeld("the place is not believed")
        reasons = self._reasons_below(place)
        numbers = self._world_numbers()
        rows = sorted([(self._hands[hand].height(saying), (hand, saying)) for hand, saying in reasons])
        return [(here, numbers.get((here[0], reasons[here]), -1)) for _, here in rows]

    def blame(self, place):
        """The row of causes of an open place, to one that has none."""
        self._check_open(place)
        row = []
        while place is not None:
            row.append(place)
            place = self._hands[place[0]].cause(place[1])
        return row

    def waits_for(self, place):
        """What an open place waits for: the places that do so by turns, and the lane of the letter at last."""
        self._check_open(place)
        places = [place]
        lane = None
        while lane is None:
            hand, saying = places[-1]
            other = self._hands[hand].awaited(saying)[0]
            lane = self._lane_between(hand, saying, other)
            if lane is None:
                places.append((other, self._hands[other].owed_for((hand, saying))[0]))
        return places, lane

    def log(self, hand):
        """All that a hand did, with what it told then."""
        self._check_hand(hand)
        return [(own_what(what), list(told)) for what, told in self._logs[hand]]

    def height(self, hand, saying):
        """The height of a saying of a hand, None where it is not settled."""
        return self._hand(hand).height(saying)

    def reason(self, hand, saying):
        """By what a saying of a hand is settled: -1, a number of the hand's, or None."""
        return self._hand(hand).reason(saying)

    def awaited(self, hand, saying):
        """From whom a hand awaits answers to a saying, in order."""
        return self._hand(hand).awaited(saying)

    def cause(self, hand, saying):
        """The cause of an open saying of a hand, None by a deed."""
        return self._hand(hand).cause(saying)

    def owed(self, hand):
        """The answers that a hand owes, in order."""
        return self._hand(hand).owed()

    def turns(self, hand):
        """Each settling and each giving up of a hand, as they came."""
        return self._hand(hand).turns()

    def heard_of(self, hand, neighbour):
        """What a hand heard of a neighbour, or of itself, in order."""
        return self._hand(hand).heard_of(neighbour)

    def _check_hand(self, name):
        """Refuse what is no hand here."""
        if type(name) != str or name not in self._hands:
            raise NoHand("there is no such hand")

    def _check_two(self, hand, other):
        """Refuse what are no two hands here."""
        self._check_hand(hand)
        self._check_hand(other)
        if hand == other:
            raise NoHand("this is one hand alone")

    def _check_open(self, place):
        """Refuse what is no open place."""
        if not self._hand_at(place).is_open(place[1]):
            raise NotOpen("the place is not open")

    def _hand(self, name):
        """The hand of this name."""
        self._check_hand(name)
        return self._hands[name]

    def _hand_at(self, place):
        """The hand of a place."""
        check_place(place)
        return self._hand(place[0])

    def _did(self, name, what, told):
        """Note what a hand did and send what it told: the lanes on which nothing lay ahead of it."""
        self._logs[name].append((what, told))
        begun = []
        for neighbour, letter in told:
            lane = self._lanes[(name, neighbour)]
            if not lane:
                begun.append((name, neighbour))
            lane.append(letter)
        self._many_lying += len(told)
        return begun

    def _step(self, hand, other):
        """Let the first letter on a lane be heard: the lanes on which then the first one lies."""
        letter = self._lanes[(hand, other)].popleft()
        self._many_lying -= 1
        return self._did(other, ("hear", hand, letter), self._hands[other].hear_sent(hand, letter))

    def _reasons_below(self, place):
        """The reasons, numbers of the hands', of a place and of all on which it leans."""
        reasons = {}
        waiting = [place]
        while waiting:
            here = waiting.pop()
            if here not in reasons:
                hand = self._hands[here[0]]
                reasons[here] = hand.ground(here[1])
                waiting.extend(hand.premises(reasons[here]))
        return reasons

    def _world_numbers(self):
        """The numbers of the world's rules, by their hands and the hands' own numbers."""
        found = {}
        for name in self.hands():
            for number in self._hands[name].numbers():
                found[(name, number)] = len(found)
        return found

    def _lane_between(self, hand, saying, other):
        """The lane on which a hand's giving up or its answer lies, None where the other one owes it."""
        if ("open", saying) in self._lanes.get((hand, other), []):
            return hand, other
        if ("heard", saying) in self._lanes.get((other, hand), []):
            return other, hand
        return None


def own_what(what):
    """A what of a log, with premises that are the asker's own."""
    return what[:3] + (list(what[3]),) if what[0] == "lean" else what
