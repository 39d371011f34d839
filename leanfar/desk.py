"""A desk: a net that is told and asked by rows of words."""

from leanfar.errors import NoRow
from leanfar.figures import figures_of, number_in
from leanfar.nets import Net
from leanfar.reading import set_against
from leanfar.texts import place_words, rule_in
from leanfar.worlds import is_name

# How many words stand behind each first word: all of them names, but the number of a rule.
BEHIND = {
    "come": 1, "join": 2, "part": 2, "vouch": 2, "withdraw": 2, "drop": 2, "step": 2,
    "rest": 0, "hands": 0, "roads": 0, "open": 0, "lie": 0, "all": 0,
    "height": 2, "reason": 2, "why": 2, "whynot": 2, "blame": 2,
}
OF_THE_NET = ("rest", "hands", "roads", "open", "lie", "all")
OF_A_PLACE = ("height", "reason", "why", "whynot", "blame")


class Desk:
    """A net, and what it answers to rows of words."""

    def __init__(self):
        """A desk with a net without hands."""
        self._net = Net()

    def say(self, row):
        """Do, or tell, what a row asks for: its answer."""
        if type(row) != str:
            raise NoRow("this is no text")
        words = row.split(" ")
        rule = rule_in(words)
        if rule is not None:
            hand, saying, cost, premises = rule
            return figures_of(self._net.lean(hand, saying, premises, cost=cost))
        if not is_row(words):
            raise NoRow("this is no row of words")
        if words[0] in OF_THE_NET:
            return told_of_net(self._net, words[0])
        if words[0] in OF_A_PLACE:
            return told_of_place(self._net, words[0], (words[1], words[2]))
        do(self._net, words)
        return "ok"


def is_row(words):
    """Whether the first word is one of the desk's, and such words stand behind it as it asks for."""
    if words[0] not in BEHIND or len(words) != BEHIND[words[0]] + 1:
        return False
    if words[0] == "drop":
        return is_name(words[1]) and number_in(words[2]) is not None
    return all([is_name(word) for word in words[1:]])


def do(net, words):
    """Let a net do a deed."""
    if words[0] == "come":
        net.come(words[1])
    elif words[0] == "join":
        net.join(words[1], words[2])
    elif words[0] == "part":
        net.part(words[1], words[2])
    elif words[0] == "vouch":
        net.vouch(words[1], words[2])
    elif words[0] == "withdraw":
        net.withdraw(words[1], words[2])
    elif words[0] == "drop":
        net.drop(words[1], number_in(words[2]))
    else:
        net.step(words[1], words[2])


def told_of_net(net, word):
    """What a net tells of itself, or by coming to rest."""
    if word == "rest":
        return figures_of(net.rest())
    if word == "hands":
        return listed(net.hands())
    if word == "roads":
        return listed(["-".join(road) for road in net.roads()])
    if word == "open":
        return listed_places(net.open_places())
    if word == "lie":
        return figures_of(net.lying())
    heights = net.heights()
    return listed([place_words(place) + ":" + figures_of(heights[place]) for place in sorted(heights)])


def told_of_place(net, word, place):
    """What a net tells of a place."""
    hand, saying = place
    if word == "height":
        height = net.height(hand, saying)
        return "none" if height is None else figures_of(height)
    if word == "reason":
        return reason_words(net.reason(hand, saying))
    if word == "why":
        return listed_places([needed for needed, _ in net.why(place)])
    if word == "whynot":
        return listed_places(set_against(net.world(), place))
    return listed_places(net.blame(place))


def reason_words(reason):
    """How a reason is told."""
    if reason is None:
        return "none"
    return "vouched" if reason == -1 else figures_of(reason)


def listed(words):
    """These words, or none where there are none."""
    return " ".join(words) if words else "none"


def listed_places(places):
    """The words of these places, or none where there are none."""
    return listed([place_words(place) for place in places])
