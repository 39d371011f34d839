"""The words of DOC.md for a hand (15 to 20), written down plainly, to hold the program against."""

from tests import plain


class Refused(Exception):
    pass


class PlainHand:
    """A hand that keeps sets of facts, and tells what a deed tells or raises Refused with a class's name."""

    def __init__(self, name):
        self.name = name
        self.neighbours = set()
        self.vouched = set()
        self.rules = []  # None where one was dropped
        self.heard = {}  # by (hand, saying)
        self.settled = {}
        self.causes = {}  # of the open sayings
        self.awaited = set()  # of (saying, hand)
        self.owed = set()  # of (hand, saying, the saying for which)
        self.turns = []
        self.gone = []  # letters of this deed, as (to, letter)
        self.unheard = []  # those of them that went to itself and are not heard yet

    def do(self, what, *rest):
        """Do a deed of a name, and tell the list of its letters to neighbours."""
        self.gone = []
        number = getattr(self, what)(*rest)
        self.hear_itself()
        told = [(to, letter) for to, letter in self.gone if to != self.name]
        return told if number is None else (number, told)

    def best(self, saying):
        if saying in self.vouched:
            return 0
        found = [self.given(rule) for rule in self.rules if rule is not None and rule[0] == saying]
        return min([given for given in found if given is not None], default=None)

    def given(self, rule):
        _, cost, premises = rule
        if all(premise in self.heard for premise in premises):
            return cost + max([self.heard[premise] for premise in premises])
        return None

    def send(self, to, letter):
        self.gone.append((to, letter))
        if to == self.name:
            self.unheard.append(letter)

    def to_all(self, letter):
        for to in sorted(self.neighbours) + [self.name]:
            self.send(to, letter)
            if letter[0] == "open":
                self.awaited.add((letter[1], to))

    def look(self, saying, cause=None):
        if saying in self.causes:
            return
        best, height = self.best(saying), self.settled.get(saying)
        if best is not None and (height is None or best < height):
            self.settled[saying] = best
            self.turns.append((saying, best, None))
            self.to_all(("holds", saying, best))
        elif height is not None and (best is None or best > height):
            del self.settled[saying]
            self.causes[saying] = cause
            self.turns.append((saying, None, cause))
            self.to_all(("open", saying))

    def look_at_leaning_on(self, is_meant, cause=None):
        """Look at the sayings with a rule that has such a premise: those that are given up."""
        sayings = {rule[0] for rule in self.rules if rule is not None and any(map(is_meant, rule[2]))}
        before = set(self.causes)
        for saying in sorted(sayings):
            self.look(saying, cause)
        return set(self.causes) - before

    def hear_itself(self):
        while self.unheard:
            self.take(self.name, self.unheard.pop(0))

    def take(self, hand, letter):
        kind, saying = letter[:2]
        if kind == "holds":
            self.heard[hand, saying] = letter[2]
            self.look_at_leaning_on(lambda premise: premise == (hand, saying))
        if kind == "open":
            del self.heard[hand, saying]
            given_up = self.look_at_leaning_on(lambda premise: premise == (hand, saying), (hand, saying))
            self.owed |= {(hand, saying, one) for one in given_up}
            if not given_up:
                self.send(hand, ("heard", saying))
        if kind == "heard":
            self.awaited.remove((saying, hand))
            self.close_if_none_is_awaited(saying)

    def close_if_none_is_awaited(self, saying):
        if saying in [one for one, _ in self.awaited]:
            return
        del self.causes[saying]
        self.look(saying)
        owed_before = {(hand, one) for hand, one, _ in self.owed}
        self.owed = {row for row in self.owed if row[2] != saying}
        owed_still = {(hand, one) for hand, one, _ in self.owed}
        for hand, one in sorted(owed_before - owed_still):
            self.send(hand, ("heard", one))

    def refuse(self, name, whether):
        if whether:
            raise Refused(name)

    def vouch(self, saying):
        self.refuse("NoName", not plain.is_name(saying))
        self.refuse("Twice", saying in self.vouched)
        self.vouched.add(saying)
        self.look(saying)

    def withdraw(self, saying):
        self.refuse("NotVouched", not plain.is_name(saying) or saying not in self.vouched)
        self.vouched.remove(saying)
        self.look(saying)

    def lean(self, saying, premises, cost=1):
        self.refuse("NoRule", not plain.is_rule((self.name, saying, cost, premises)))
        self.rules.append((saying, cost, tuple(premises)))
        self.look(saying)
        return len(self.rules) - 1

    def drop(self, number):
        self.refuse("NoRule", type(number) is not int or number not in range(len(self.rules)))
        self.refuse("NoRule", self.rules[number] is None)
        saying = self.rules[number][0]
        self.rules[number] = None
        self.look(saying)

    def join(self, neighbour):
        self.refuse("NoName", not plain.is_name(neighbour))
        self.refuse("Twice", neighbour == self.name or neighbour in self.neighbours)
        self.neighbours.add(neighbour)
        for saying in sorted(self.settled):
            self.send(neighbour, ("holds", saying, self.settled[saying]))

    def part(self, neighbour):
        self.refuse("NoRoad", not plain.is_name(neighbour) or neighbour not in self.neighbours)
        self.neighbours.remove(neighbour)
        self.heard = {place: height for place, height in self.heard.items() if place[0] != neighbour}
        self.owed = {row for row in self.owed if row[0] != neighbour}
        for saying, cause in self.causes.items():
            if cause is not None and cause[0] == neighbour:
                self.causes[saying] = None
        self.look_at_leaning_on(lambda premise: premise[0] == neighbour)
        self.hear_itself()
        bereft = sorted(saying for saying, hand in self.awaited if hand == neighbour)
        self.awaited = {(saying, hand) for saying, hand in self.awaited if hand != neighbour}
        for saying in bereft:
            self.close_if_none_is_awaited(saying)

    def hear(self, neighbour, letter):
        self.refuse("NoLetter", not plain.is_name(neighbour) or neighbour not in self.neighbours)
        self.refuse("NoLetter", not plain.is_letter(letter))
        kind, saying = letter[:2]
        known = self.heard.get((neighbour, saying))
        self.refuse("NoLetter", kind == "holds" and known is not None and letter[2] >= known)
        self.refuse("NoLetter", kind == "open" and known is None)
        self.refuse("NoLetter", kind == "heard" and (saying, neighbour) not in self.awaited)
        self.take(neighbour, letter)

    def reason(self, saying):
        if saying not in self.settled:
            return None
        if saying in self.vouched:
            return -1
        for number, rule in enumerate(self.rules):
            if rule is not None and rule[0] == saying and self.given(rule) == self.settled[saying]:
                return number

    def view(self, sayings):
        """All that it tells, by the names under which it is asked, with what is asked."""
        told = {
            ("name",): self.name,
            ("neighbours",): sorted(self.neighbours),
            ("settled",): sorted(self.settled.items()),
            ("open_ones",): sorted(self.causes),
            ("rules",): [
                (number, rule[0], rule[1], list(rule[2]))
                for number, rule in enumerate(self.rules) if rule is not None
            ],
            ("vouched",): sorted(self.vouched),
            ("owed",): [
                (hand, saying, sorted(one[2] for one in self.owed if one[:2] == (hand, saying)))
                for hand, saying in sorted({row[:2] for row in self.owed})
            ],
            ("turns",): list(self.turns),
        }
        for hand in self.neighbours | {self.name}:
            rows = [(place[1], height) for place, height in self.heard.items() if place[0] == hand]
            told["heard_of", hand] = sorted(rows)
        for saying in sayings:
            told["height", saying] = self.settled.get(saying)
            told["reason", saying] = self.reason(saying)
            told["awaited", saying] = sorted(hand for one, hand in self.awaited if one == saying)
            told["cause", saying] = self.causes.get(saying)
        return told
