"""Names, places, rules and worlds, what they are and which rules live."""

from leanfar.errors import NoName, NoPlace, NoWorld


def is_whole(thing):
    """Whether it is a whole number."""
    # The very kind is asked for, here and below: a truth stands under int, and
    # a thing of a kind derived from another may answer whatever it likes.
    return type(thing) == int


def is_name(thing):
    """Whether it is a text of one to eight small letters."""
    return type(thing) == str and 1 <= len(thing) <= 8 and are_small_letters(thing)


def are_small_letters(text):
    """Whether a text, which is not empty, has small letters from a to z alone."""
    return text.isascii() and text.isalpha() and text.islower()


def is_place(thing):
    """Whether it is a tuple (hand, saying), two names."""
    if type(thing) != tuple or len(thing) != 2:
        return False
    return is_name(thing[0]) and is_name(thing[1])


# Many places are judged all at once, and each text of them just once: a world names
# the same ones again and again.


def are_pairs(things):
    """Whether each of these is a tuple of two texts."""
    return all([
        type(thing) == tuple and len(thing) == 2 and type(thing[0]) == str and type(thing[1]) == str
        for thing in things
    ])


def are_of_names(pairs):
    """Whether all texts of these pairs are names."""
    texts = {text: True for pair in pairs for text in pair}
    for text in texts:
        if not 1 <= len(text) <= 8:
            return False
    return not texts or are_small_letters("".join(texts))


def are_places(thing):
    """Whether it is a list of places."""
    return type(thing) == list and are_pairs(thing) and are_of_names(thing)


def are_unlike_places(thing):
    """Whether it is a list of places, none of them twice."""
    return are_places(thing) and are_unlike(thing)


def is_rule(thing):
    """Whether it is a tuple (hand, saying, cost, premises)."""
    return is_world(([], [thing], []))


def is_world(thing):
    """Whether it is a tuple (vouched, rules, roads)."""
    return places_in(thing) is not None


def places_in(thing):
    """The places that a world names, as keys of a dict, or None of what is no world."""
    if type(thing) != tuple or len(thing) != 3:
        return None
    vouched, rules, roads = thing
    if type(vouched) != list or type(roads) != list:
        return None
    premises = premises_in(rules)
    if premises is None or not are_pairs(vouched + premises + roads):
        return None
    # Only now that all are tuples of texts they may be kept as keys or compared.
    found = {place: True for place in vouched + [rule[:2] for rule in rules] + premises}
    if not are_of_names([*found, *roads]) or not are_unlike(vouched) or not are_unlike(roads):
        return None
    for rule in rules:
        if len(set(rule[3])) != len(rule[3]):
            return None
    for hand, other in roads:
        if hand >= other:
            return None
    return found


def are_unlike(pairs):
    """Whether none of these pairs is there twice."""
    return len(set(pairs)) == len(pairs)


def premises_in(thing):
    """The premises of a list of rules, whatever they are, or None where it is else no such list."""
    if type(thing) != list:
        return None
    found = []
    for rule in thing:
        if type(rule) != tuple or len(rule) != 4:
            return None
        hand, saying, cost, premises = rule
        if type(hand) != str or type(saying) != str or type(cost) != int or cost < 1:
            return None
        if type(premises) != list or not 1 <= len(premises) <= 8:
            return None
        found.extend(premises)
    return found


def check_name(thing):
    """Refuse what is no name."""
    if not is_name(thing):
        raise NoName("this is no name")


def check_world(thing):
    """Refuse what is no world."""
    if places_in(thing) is None:
        raise NoWorld("this is no world")


def check_place(thing):
    """Refuse what is no place."""
    if not is_place(thing):
        raise NoPlace("this is no place")


def named(world):
    """The places that are vouched, lean by a rule or are a premise, in order."""
    places = places_in(world)
    if places is None:
        raise NoWorld("this is no world")
    return sorted(places)


def place_of(rule):
    """The place that leans by a rule."""
    return rule[:2]


def living(world):
    """The rules that live, by their numbers, in order."""
    _, rules, roads = world
    joined = {}
    for hand, other in roads:
        joined[(hand, other)] = True
        joined[(other, hand)] = True
    found = {}
    for number, rule in enumerate(rules):
        hand = rule[0]
        for other, _ in rule[3]:
            if other != hand and (hand, other) not in joined:
                break
        else:
            found[number] = rule
    return found
