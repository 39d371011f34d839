"""A hand: what it vouches for, its rules, what it heard, and the letters that it tells."""

from leanfar.errors import NoLetter, NoRoad, NoRule, NotVouched, Twice
from leanfar.letters import is_letter
from leanfar.reading import height_by
from leanfar.worlds import check_name, is_rule, is_whole


class Hand:
    """A hand with its neighbours, its rules and its beliefs, settled or open."""

    def __init__(self, name):
        """A hand of this name, alone and without beliefs."""
        check_name(name)
        self._name = name
        # Names alone are keys here: what is one of these texts need not be judged as a name.
        self._neighbours = {}
        self._vouched = {}
        # Each rule by its number; and the numbers by sayings that lean, and by premises.
        self._rules = {}
        self._many = 0
        self._ways = {}
        self._uses = {}
        # The heights: those heard, by places, and its own, by settled sayings.
        self._heard = {}
        self._heights = {}
        # Of each open saying its cause, and from whom answers are awaited.
        self._causes = {}
        self._awaited = {}
        # By places whose giving up was heard, the sayings for which the answer is owed.
        self._owed = {}
        self._turns = []
        # The letters of the deed that is under way: to neighbours, and to itself.
        self._told = []
        self._own = []

    def vouch(self, saying):
        """Vouch for a saying."""
        check_name(saying)
        if saying in self._vouched:
            raise Twice("the hand vouches for this saying already")
        self._vouched[saying] = True
        self._look(saying, None)
        return self._ended()

    def withdraw(self, saying):
        """Vouch for a saying no more."""
        if type(saying) != str or saying not in self._vouched:
            raise NotVouched("the hand does not vouch for this")
        del self._vouched[saying]
        self._look(saying, None)
        return self._ended()

    def lean(self, saying, premises, *, cost=1):
        """Let a saying lean by a new rule, whose number is told, too."""
        if not is_rule((self._name, saying, cost, premises)):
            raise NoRule("this is no rule")
        number = self._many
        self._many += 1
        self._rules[number] = (self._name, saying, cost, list(premises))
        self._ways.setdefault(saying, []).append(number)
        for premise in premises:
            self._uses.setdefault(premise, []).append(number)
        self._look(saying, None)
        return number, self._ended()

    def drop(self, number):
        """Drop the rule of this number."""
        if not is_whole(number) or number not in self._rules:
            raise NoRule("the hand has no rule of this number")
        _, saying, _, premises = self._rules.pop(number)
        self._ways[saying].remove(number)
        for premise in premises:
            self._uses[premise].remove(number)
        self._look(saying, None)
        return self._ended()

    def join(self, neighbour):
        """Take a neighbour, and tell it all that is settled."""
        check_name(neighbour)
        if neighbour == self._name or neighbour in self._neighbours:
            raise Twice("this is the hand itself, or a neighbour already")
        self._neighbours[neighbour] = True
        return [(neighbour, ("holds", saying, height)) for saying, height in self.settled()]

    def part(self, neighbour):
        """Part from a neighbour, and from all that came of it."""
        if type(neighbour) != str or neighbour not in self._neighbours:
            raise NoRoad("this is no neighbour")
        del self._neighbours[neighbour]
        self._forget(neighbour)
        for saying in self._leaning_on_any(neighbour):
            self._look(saying, None)
        self._hear_own()
        # Behind its own letters, by which one may await nobody but the neighbour any more.
        sayings = self.open_ones()
        for saying in sayings:
            self._answered(saying, neighbour)
        return self._ended()

    def hear(self, neighbour, letter):
        """Hear a letter of a neighbour."""
        if not self._may_hear(neighbour, letter):
            raise NoLetter("this is no letter that the hand may hear of it")
        return self.hear_sent(neighbour, letter)

    def hear_sent(self, neighbour, letter):
        """Hear a letter that a hand sent, of which none need judge whether it may be heard."""
        self._take(neighbour, letter)
        return self._ended()

    def name(self):
        """Its name."""
        return self._name

    def neighbours(self):
        """Its neighbours, in order."""
        return sorted(self._neighbours)

    def height(self, saying):
        """The height of a saying, None where it is not settled."""
        check_name(saying)
        return self._heights.get(saying, None)

    def settled(self):
        """The settled sayings with their heights, in order."""
        return sorted(self._heights.items())

    def open_ones(self):
        """The open sayings, in order."""
        return sorted(self._causes)

    def reason(self, saying):
        """By what a saying is settled: -1, the least number of such a rule, or None."""
        check_name(saying)
        return self.ground(saying)

    def ground(self, saying):
        """The reason of what is known to be a saying."""
        height = self._heights.get(saying, None)
        if height is None:
            return None
        if saying in self._vouched:
            return -1
        for number in self._ways.get(saying, []):
            if height_by(self._rules[number], self._heard) == height:
                return number
        return None

    def premises(self, number):
        """The premises of the rule of this number, as it has them; none of -1 and of None."""
        return list(self._rules[number][3]) if number in self._rules else []

    def leans_on(self, saying):
        """The premises on which what is known to be a saying leans by its reason."""
        return self.premises(self.ground(saying))

    def numbers(self):
        """The numbers of its rules, in order."""
        return list(self._rules)

    def rules(self):
        """Its rules with their numbers, in order."""
        return [(number, rule[1], rule[2], list(rule[3])) for number, rule in self._rules.items()]

    def vouched(self):
        """What it vouches for, in order."""
        return sorted(self._vouched)

    def heard_of(self, neighbour):
        """The sayings heard of a neighbour, or of itself, with their heights, in order."""
        if type(neighbour) != str or (neighbour != self._name and neighbour not in self._neighbours):
            raise NoRoad("this is no neighbour, nor the hand itself")
        return sorted([(place[1], height) for place, height in self._heard.items() if place[0] == neighbour])

    def awaited(self, saying):
        """From whom answers to the giving up of a saying are awaited, in order."""
        check_name(saying)
        return sorted(self._awaited.get(saying, {}))

    def cause(self, saying):
        """By whose giving up of what an open saying was given up, None by a deed."""
        check_name(saying)
        return self._causes.get(saying, None)

    def is_open(self, saying):
        """Whether a saying is open."""
        return saying in self._causes

    def owed_for(self, place):
        """The sayings for which the answer to a place's giving up is owed, in order."""
        return sorted(self._owed.get(place, {}))

    def owed(self):
        """The answers that are owed, each with the sayings for which it is, in order."""
        return [(place[0], place[1], sorted(self._owed[place])) for place in sorted(self._owed)]

    def turns(self):
        """Each settling and each giving up, as they came."""
        return list(self._turns)

    def turns_behind(self, many):
        """The turns but so many first ones."""
        return self._turns[many:]

    def _may_hear(self, neighbour, letter):
        """Whether a letter may come of a neighbour as things stand."""
        if type(neighbour) != str or neighbour not in self._neighbours or not is_letter(letter):
            return False
        saying = letter[1]
        height = self._heard.get((neighbour, saying), None)
        if letter[0] == "holds":
            return height is None or letter[2] < height
        if letter[0] == "open":
            return height is not None
        return neighbour in self._awaited.get(saying, {})

    def _take(self, hand, letter):
        """Do what a letter of a neighbour, or of itself, leads to."""
        saying = letter[1]
        if letter[0] == "holds":
            self._heard[(hand, saying)] = letter[2]
            for leaning in self._leaning_on((hand, saying)):
                self._look(leaning, None)
        elif letter[0] == "open":
            self._take_open((hand, saying))
        else:
            self._answered(saying, hand)

    def _take_open(self, place):
        """Hear that a place was given up, and answer or owe the answer."""
        del self._heard[place]
        given_up = {}
        for leaning in self._leaning_on(place):
            if self._look(leaning, place):
                given_up[leaning] = True
        if given_up:
            self._owed[place] = given_up
        else:
            self._tell(place[0], ("heard", place[1]))

    def _answered(self, saying, hand):
        """Await no answer to an open saying from a hand any more."""
        awaited = self._awaited[saying]
        awaited.pop(hand, None)
        if not awaited:
            self._close(saying)

    def _close(self, saying):
        """Close an open saying, and give each answer that waited for it last."""
        del self._causes[saying]
        del self._awaited[saying]
        self._look(saying, None)
        places = sorted(self._owed)
        for place in places:
            waiting = self._owed[place]
            waiting.pop(saying, None)
            if not waiting:
                del self._owed[place]
                self._tell(place[0], ("heard", place[1]))

    def _look(self, saying, cause):
        """Settle a saying or give it up where its best asks it: whether it was given up."""
        if saying in self._causes:
            return False
        best = self._best(saying)
        height = self._heights.get(saying, None)
        if best == height:
            return False
        if best is not None and (height is None or best < height):
            self._heights[saying] = best
            self._turns.append((saying, best, None))
            self._tell_all(("holds", saying, best))
            return False
        del self._heights[saying]
        self._causes[saying] = cause
        self._awaited[saying] = {hand: True for hand in [*self._neighbours, self._name]}
        self._turns.append((saying, None, cause))
        self._tell_all(("open", saying))
        return True

    def _best(self, saying):
        """The best of a saying, or None."""
        if saying in self._vouched:
            return 0
        given = [height_by(self._rules[number], self._heard) for number in self._ways.get(saying, [])]
        return min([height for height in given if height is not None], default=None)

    def _leaning_on(self, premise):
        """The sayings with a rule that has this premise, in order."""
        return sorted({self._rules[number][1] for number in self._uses.get(premise, [])})

    def _leaning_on_any(self, hand):
        """The sayings with a rule that has any premise of this hand, in order."""
        return sorted({
            rule[1] for rule in self._rules.values() if any([premise[0] == hand for premise in rule[3]])
        })

    def _forget(self, neighbour):
        """Forget what was heard of a neighbour, what is owed to it, and that it is any cause."""
        self._heard = {place: self._heard[place] for place in self._heard if place[0] != neighbour}
        self._owed = {place: self._owed[place] for place in self._owed if place[0] != neighbour}
        sayings = self.open_ones()
        for saying in sayings:
            cause = self._causes[saying]
            if cause is not None and cause[0] == neighbour:
                self._causes[saying] = None

    def _tell_all(self, letter):
        """Tell a letter to the neighbours, in order, and to itself."""
        for neighbour in sorted(self._neighbours):
            self._told.append((neighbour, letter))
        self._own.append(letter)

    def _tell(self, hand, letter):
        """Tell a letter to a neighbour, or to itself."""
        if hand == self._name:
            self._own.append(letter)
        else:
            self._told.append((hand, letter))

    def _hear_own(self):
        """Hear the letters to itself, and those that come of them behind them."""
        while self._own:
            letters = self._own
            self._own = []
            for letter in letters:
                self._take(self._name, letter)

    def _ended(self):
        """End a deed: what it told its neighbours."""
        self._hear_own()
        told = self._told
        self._told = []
        return told
