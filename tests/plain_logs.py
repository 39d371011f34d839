"""The words of DOC.md for logs (24, 25), written down plainly, to hold the program against."""

from tests import plain
from tests.asking import same
from tests.plain_hand import PlainHand, Refused
from tests.plain_net import refuse


class Unpromised(Exception):
    """A log holds a letter of which nothing is promised (18, at its end)."""


def is_what(thing):
    if type(thing) is not tuple or not thing or type(thing[0]) is not str:
        return False
    word, *rest = thing
    if word in ["vouch", "withdraw", "join", "part"]:
        return len(rest) == 1 and plain.is_name(rest[0])
    if word == "drop":
        return len(rest) == 1 and type(rest[0]) is int and rest[0] > -1
    if word == "lean":
        return len(rest) == 3 and plain.is_rule(("any", *rest))
    if word == "hear":
        return len(rest) == 2 and plain.is_name(rest[0]) and plain.is_letter(rest[1])
    return False


def tell(hand, what):
    """What a plain hand tells where it does this."""
    word, *rest = what
    if word == "lean":
        saying, cost, premises = rest
        return hand.do("lean", saying, premises, cost)[1]
    if word == "hear" and rest[1][0] == "holds" and any(row[:2] == (rest[0], rest[1][1]) for row in hand.owed):
        raise Unpromised
    return hand.do(word, *rest)


class Opened(dict):
    """The causes of a plain hand's open sayings, that notes each span."""

    def __init__(self):
        super().__init__()
        self.spans = []
        self.at = None

    def __setitem__(self, saying, cause):
        if saying not in self:
            self.spans.append([saying, self.at, None, cause])
        super().__setitem__(saying, cause)

    def __delitem__(self, saying):
        super().__delitem__(saying)
        for span in self.spans:
            if span[0] == saying and span[2] is None:
                span[2] = self.at


def are_rows(log):
    return type(log) is list and all(type(row) is tuple and len(row) == 2 for row in log)


def judged(name, log):
    """The place of the first wrong tuple, or None, and the spans up to there."""
    hand = PlainHand(name)
    hand.causes = Opened()
    for at, (what, told) in enumerate(log):
        hand.causes.at = at
        if not is_what(what):
            return at, []
        try:
            expected = tell(hand, what)
        except Refused:
            return at, []
        if not same(told, expected):
            return at, []
    return None, [tuple(span) for span in hand.causes.spans]


def first_wrong(name, log):
    refuse("NoName", not plain.is_name(name))
    refuse("NoRow", not are_rows(log))
    return judged(name, log)[0]


def spans(name, log):
    refuse("NoName", not plain.is_name(name))
    refuse("NoLog", not are_rows(log))
    wrong, found = judged(name, log)
    refuse("NoLog", wrong is not None)
    return found


def counted(name, log):
    spans(name, log)
    numbers = dict.fromkeys([(way, kind) for way in "ht" for kind in ["holds", "open", "heard"]], 0)
    for what, told in log:
        if what[0] == "hear":
            numbers["h", what[2][0]] += 1
        for _, letter in told:
            numbers["t", letter[0]] += 1
    return tuple(numbers.values())


def orders(logs):
    """All orders in which logs could go on, the first ones by names first, by trying each: a name, and what is left."""
    def go(left, post):
        if not any(left.values()):
            yield []
        for name in sorted(left):
            for rest_left, rest_post in going_on(name, left, post):
                for order in go(rest_left, rest_post):
                    yield [name] + order
    return go(logs, [])


def going_on(name, left, post):
    """What is left, and what lies in the post, where this name goes on; nothing where it can't."""
    if not left[name]:
        return
    (word, *rest), told = left[name][0]
    after = {**left, name: left[name][1:]}
    more = [(name, to, letter) for to, letter in told]
    if word == "hear":
        lane = [row for row in post if row[:2] == (rest[0], name)]
        if not lane or lane[0][2] != rest[1]:
            return
        post = list(post)
        post.remove(lane[0])
    if word in ["join", "part"]:
        other = rest[0]
        if name > other or not left.get(other) or left[other][0][0] != (word, name):
            return
        after[other] = left[other][1:]
        more += [(other, to, letter) for to, letter in left[other][0][1]]
        post = [row for row in post if {row[0], row[1]} != {name, other}]
    yield after, post + more


def woven(logs):
    """Each time the least name that can go on."""
    refuse("NoLog", type(logs) is not dict or not all(map(plain.is_name, logs)))
    for name, log in logs.items():
        counted(name, log)
    left, post, order = dict(logs), [], []
    while any(left.values()):
        able = [name for name in sorted(left) if list(going_on(name, left, post))]
        if not able:
            return None
        order.append(able[0])
        (left, post), = going_on(able[0], left, post)
    return order
