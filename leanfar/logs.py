"""Logs: what a hand did and told, whether it is right, and what is told of right ones."""

from leanfar.errors import LeanError, NoLog, NoRow
from leanfar.hands import Hand
from leanfar.letters import is_letter
from leanfar.weaving import Weaving
from leanfar.worlds import is_name, is_rule, is_whole

# How many parts each what has, its word the first one.
PARTS = {"vouch": 2, "withdraw": 2, "lean": 4, "drop": 2, "join": 2, "part": 2, "hear": 3}


def is_worded(thing):
    """Whether it is a tuple that has a what's word and as many parts as that asks."""
    if type(thing) != tuple or len(thing) == 0 or type(thing[0]) != str:
        return False
    return len(thing) == PARTS.get(thing[0], 0)


def is_what(thing):
    """Whether it is a what of a log, by forms alone."""
    if not is_worded(thing):
        return False
    if thing[0] == "hear":
        return is_name(thing[1]) and is_letter(thing[2])
    if thing[0] == "lean":
        _, saying, cost, premises = thing
        # The rule may be any hand's.
        return is_rule(("a", saying, cost, premises))
    if thing[0] == "drop":
        return is_whole(thing[1]) and thing[1] >= 0
    return is_name(thing[1])


def is_rows(thing):
    """Whether it is a list of tuples of two."""
    return type(thing) == list and all([type(row) == tuple and len(row) == 2 for row in thing])


def done(hand, what):
    """What a hand tells where it does this, which is worded."""
    word = what[0]
    if word == "hear":
        return hand.hear(what[1], what[2])
    if word == "lean":
        _, told = hand.lean(what[1], what[3], cost=what[2])
        return told
    if word == "vouch":
        return hand.vouch(what[1])
    if word == "withdraw":
        return hand.withdraw(what[1])
    if word == "drop":
        return hand.drop(what[1])
    if word == "join":
        return hand.join(what[1])
    return hand.part(what[1])


def goes_on(hand, what, told):
    """Let a hand do this: whether it can, and tells just that."""
    if not is_worded(what):
        return False
    try:
        # What is worded but no what is refused by the hand, too.
        letters = done(hand, what)
    except LeanError:
        return False
    return is_told(told, letters)


def is_told(thing, letters):
    """Whether it is this list of tuples (neighbour, letter), kind for kind."""
    if type(thing) != list or len(thing) != len(letters):
        return False
    for row, (neighbour, letter) in zip(thing, letters):
        if type(row) != tuple or len(row) != 2 or type(row[0]) != str or row[0] != neighbour:
            return False
        if not is_just(row[1], letter):
            return False
    return True


def is_just(thing, letter):
    """Whether it is this letter, kind for kind."""
    if type(thing) != tuple or len(thing) != len(letter) or type(thing[0]) != str or type(thing[1]) != str:
        return False
    # A truth may be like a height, but is none.
    if len(thing) == 3 and type(thing[2]) != int:
        return False
    return thing == letter


def first_wrong(name, log):
    """The place of the first tuple of a log that is wrong by this name, None where all are right."""
    hand = Hand(name)
    if not is_rows(log):
        raise NoRow("this is no list of tuples of two")
    return stops_at(hand, log)


def stops_at(hand, log):
    """The place of the first of these tuples that a new hand does not go on by, None where there is none."""
    for at, (what, told) in enumerate(log):
        if not goes_on(hand, what, told):
            return at
    return None


def is_right(name, log):
    """Whether it is a log that is right by this name."""
    hand = Hand(name)
    return is_rows(log) and stops_at(hand, log) is None


def counted(name, log):
    """How many letters of each kind a right log heard, and how many it told."""
    if not is_right(name, log):
        raise NoLog("this is no right log")
    heard = [what[2][0] for what, _ in log if what[0] == "hear"]
    told = [letter[0] for _, letters in log for _, letter in letters]
    return (
        heard.count("holds"), heard.count("open"), heard.count("heard"),
        told.count("holds"), told.count("open"), told.count("heard"),
    )


def spans(name, log):
    """From where to where in a right log each saying that was given up was open, and by which cause."""
    hand = Hand(name)
    if not is_rows(log):
        raise NoLog("this is no list of tuples of two")
    found = []
    # Where the span of each saying that is open stands.
    going = {}
    many = 0
    for at, (what, told) in enumerate(log):
        if not goes_on(hand, what, told):
            raise NoLog("this is no right log")
        turns = hand.turns_behind(many)
        many += len(turns)
        begin_spans(found, going, turns, at)
        for saying in list(going):
            if not hand.is_open(saying):
                end_span(found, going, saying, at)
    return found


def begin_spans(found, going, turns, at):
    """Begin a span here for each giving up among these turns."""
    for saying, height, cause in turns:
        if height is None:
            # What is given up anew had closed ahead of that.
            if saying in going:
                end_span(found, going, saying, at)
            going[saying] = len(found)
            found.append((saying, at, None, cause))


def end_span(found, going, saying, at):
    """End the span of a saying here."""
    place = going.pop(saying)
    _, begun, _, cause = found[place]
    found[place] = (saying, begun, at, cause)


def woven(logs):
    """In what order right logs of several hands could have been in one net, None where they could not."""
    if type(logs) != dict:
        raise NoLog("this is no dict")
    for name, log in logs.items():
        if not is_name(name) or not is_right(name, log):
            raise NoLog("this is no right log by its name")
    weaving = Weaving(logs)
    order = weaving.order()
    return order if weaving.is_whole() else None
