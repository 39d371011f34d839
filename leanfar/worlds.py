"""Names, places, rules and worlds, what they are and which rules live."""

from leanfar.errors import NoName, NoPlace, NoWorld


def is_whole(thing):
    """Whether it is a whole number."""
    # The very kind is asked for, here and below: a truth stands under int, and
    # a thing of a kind derived from another may answer whatever it likes.
    return type(thing) == int


def is_name(thing):
    """Whether it is a text of one to eight small letters."""
    if type(thing) != str or not 1 <= len(thing) <= 8:
        return False
    return all("a" <= sign <= "z" for sign in thing)


def is_place(thing):
    """Whether it is a tuple (hand, saying), two names."""
    if type(thing) != tuple or len(thing) != 2:
        return False
    return is_name(thing[0]) and is_name(thing[1])


def are_places(thing):
    """Whether it is a list of places."""
    return type(thing) == list and all(is_place(place) for place in thing)


def are_unlike_places(thing):
    """Whether it is a list of places, none of them twice."""
    return are_places(thing) and len(set(thing)) == len(thing)


def is_rule(thing):
    """Whether it is a tuple (hand, saying, cost, premises)."""
    if type(thing) != tuple or len(thing) != 4:
        return False
    hand, saying, cost, premises = thing
    if not is_name(hand) or not is_name(saying):
        return False
    return is_cost(cost) and are_premises(premises)


def is_cost(thing):
    """Whether it is a whole number from 1 on."""
    return is_whole(thing) and thing >= 1


def are_premises(thing):
    """Whether it is a list of one to eight unlike places."""
    if type(thing) != list or not 1 <= len(thing) <= 8:
        return False
    return are_unlike_places(thing)


def are_rules(thing):
    """Whether it is a list of rules."""
    return type(thing) == list and all(is_rule(rule) for rule in thing)


def is_road(thing):
    """Whether it is a tuple of two unlike names, the lesser first."""
    # Two names make a road or a place; only the order tells them apart.
    return is_place(thing) and thing[0] < thing[1]


def are_roads(thing):
    """Whether it is a list of roads, none of them twice."""
    if type(thing) != list or not all(is_road(road) for road in thing):
        return False
    return len(set(thing)) == len(thing)


def is_world(thing):
    """Whether it is a tuple (vouched, rules, roads)."""
    if type(thing) != tuple or len(thing) != 3:
        return False
    vouched, rules, roads = thing
    return are_unlike_places(vouched) and are_rules(rules) and are_roads(roads)


def check_name(thing):
    """Refuse what is no name."""
    if not is_name(thing):
        raise NoName("this is no name")


def check_world(thing):
    """Refuse what is no world."""
    if not is_world(thing):
        raise NoWorld("this is no world")


def check_place(thing):
    """Refuse what is no place."""
    if not is_place(thing):
        raise NoPlace("this is no place")


def named(world):
    """The places that are vouched, lean by a rule or are a premise, in order."""
    check_world(world)
    vouched, rules, _ = world
    found = set(vouched)
    for rule in rules:
        found.add(place_of(rule))
        for premise in rule[3]:
            found.add(premise)
    return sorted(found)


def place_of(rule):
    """The place that leans by a rule."""
    return rule[:2]


def living(world):
    """The rules that live, by their numbers, in order."""
    _, rules, roads = world
    joined = {}
    for hand, other in roads:
        joined[(hand, other)] = True
        joined[(other, hand)] = True
    return {number: rule for number, rule in enumerate(rules) if lives(rule, joined)}


def lives(rule, joined):
    """Whether each premise of a rule is near, joined telling the roads both ways."""
    hand = rule[0]
    return all(hand == other or (hand, other) in joined for other, _ in rule[3])
