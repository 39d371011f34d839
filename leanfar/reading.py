"""Readings of a world, and what shows why a place is believed or not."""

from heapq import heappop, heappush

from leanfar.errors import Held, NoPaper, NotHeld
from leanfar.worlds import are_of_names, are_pairs, are_places, check_place, check_world, living, place_of


def is_reading(thing):
    """Whether it is a dict from places to whole numbers from 0 on."""
    if type(thing) != dict or not are_pairs(thing) or not are_of_names(thing):
        return False
    return all([type(height) == int and height >= 0 for height in thing.values()])


def check_reading(thing):
    """Refuse what is no reading."""
    if not is_reading(thing):
        raise NoPaper("this is no reading")


def height_by(rule, heights):
    """What a rule gives by these heights, None where a premise has none."""
    greatest = 0
    for premise in rule[3]:
        height = heights.get(premise, None)
        if height is None:
            return None
        if height > greatest:
            greatest = height
    return rule[2] + greatest


def grounds_by(world, heights):
    """The least height that each place has a ground for by these: that it is vouched, or a living rule."""
    found = {place: 0 for place in world[0]}
    rules = living(world)
    for rule in rules.values():
        height = height_by(rule, heights)
        if height is not None:
            place = place_of(rule)
            if place not in found or height < found[place]:
                found[place] = height
    return found


def is_held(world, reading):
    """Whether each place of a reading is vouched, or no lower than a living rule gives it."""
    check_world(world)
    check_reading(reading)
    grounds = grounds_by(world, reading)
    return all([place in grounds and grounds[place] <= height for place, height in reading.items()])


def is_shut(world, reading):
    """Whether vouched places have 0, and what living rules lead to is no higher than they give."""
    check_world(world)
    check_reading(reading)
    grounds = grounds_by(world, reading)
    return all([place in reading and reading[place] <= height for place, height in grounds.items()])


def fits(world, reading):
    """Whether a reading is held and shut."""
    check_world(world)
    check_reading(reading)
    # Held, no place is lower than its ground; shut, none is higher, and none is left out.
    return reading == grounds_by(world, reading)


def least(world):
    """The least reading: the believed places with their heights."""
    check_world(world)
    return least_heights(world[0], living(world))


def least_heights(vouched, rules):
    """The least heights that living rules give where just these places are vouched."""
    heights, _ = least_with_reasons(vouched, rules)
    return heights


def least_with_reasons(vouched, rules):
    """The least heights that living rules give, and the reasons, where just these places are vouched."""
    heights = {place: 0 for place in sorted(vouched)}
    reasons = {place: -1 for place in vouched}
    # Each rule waits for one premise that it lacks; what it gives is in the queue when it lacks none.
    waiting = {}
    queue = []
    height = 0
    asked = list(rules)
    while asked or queue:
        for number in asked:
            rule = rules[number]
            for premise in rule[3]:
                if premise not in heights:
                    waiting.setdefault(premise, []).append(number)
                    break
            else:
                # The premise that came last is the greatest, as the least heights come first.
                place = place_of(rule)
                if place not in heights:
                    heappush(queue, (height + rule[2], place, number))
        asked = []
        if queue:
            # Of rules that give a place the same height the least number comes first.
            height, place, number = heappop(queue)
            if place not in heights:
                heights[place] = height
                reasons[place] = number
                asked = waiting.pop(place, [])
    return heights, reasons


def reason_of(world, place):
    """The reason of a place: -1, the number of a rule, or None where it is not believed."""
    check_world(world)
    check_place(place)
    _, reasons = least_with_reasons(world[0], living(world))
    return reasons.get(place, None)


def reached(place, onward):
    """The place and all that is reached from it, onward telling the next ones of each."""
    found = {place: True}
    waiting = [place]
    while waiting:
        here = waiting.pop()
        for following in onward.get(here, []):
            if following not in found:
                found[following] = True
                waiting.append(following)
    return list(found)


def why(world, place):
    """The paper that shows why a place is believed: it and all on which the reasons lean."""
    check_world(world)
    check_place(place)
    heights, reasons = least_with_reasons(world[0], living(world))
    if place not in heights:
        raise NotHeld("the place is not believed")
    onward = {leaning: world[1][number][3] for leaning, number in reasons.items() if number >= 0}
    rows = sorted([(heights[needed], needed) for needed in reached(place, onward)])
    return [(needed, reasons[needed]) for _, needed in rows]


def is_paper(thing):
    """Whether it is a list of tuples of a place and a whole number."""
    if type(thing) != list:
        return False
    if not all([type(row) == tuple and len(row) == 2 and type(row[1]) == int for row in thing]):
        return False
    return are_places([place for place, _ in thing])


def why_shows(world, place, paper):
    """Whether a paper shows why a place is believed."""
    check_world(world)
    check_place(place)
    if not is_paper(paper):
        raise NoPaper("this is no list of tuples of a place and a whole number")
    vouched = {source: [] for source in world[0]}
    rules = living(world)
    ahead = {}
    for leaning, number in paper:
        premises = premises_by(number, leaning, vouched, rules)
        if leaning in ahead or premises is None or not all([premise in ahead for premise in premises]):
            return False
        ahead[leaning] = True
    return len(paper) > 0 and paper[-1][0] == place


def premises_by(number, place, vouched, rules):
    """On what a place leans by a number that a paper tells, None where it does not by this one."""
    if number == -1:
        return vouched.get(place, None)
    if number in rules and place_of(rules[number]) == place:
        return rules[number][3]
    return None


def why_not(world, place):
    """The set that shows why a place is not believed, in order."""
    check_world(world)
    check_place(place)
    return set_against(world, place)


def set_against(world, place):
    """The set that shows it, of what is known to be a world and a place."""
    rules = living(world)
    heights = least_heights(world[0], rules)
    if place in heights:
        raise Held("the place is believed")
    onward = {}
    for rule in rules.values():
        # A rule of a place that is not believed lacks at least one premise.
        if place_of(rule) not in heights:
            lacked = [premise for premise in rule[3] if premise not in heights]
            onward.setdefault(place_of(rule), []).append(lacked[0])
    return sorted(reached(place, onward))


def why_not_shows(world, place, paper):
    """Whether a set shows why a place is not believed."""
    check_world(world)
    check_place(place)
    if not are_places(paper):
        raise NoPaper("this is no list of places")
    if place not in paper or paper != sorted(set(paper)):
        return False
    inside = {other: True for other in paper}
    if any([vouched in inside for vouched in world[0]]):
        return False
    rules = living(world)
    return all([is_barred(rule, inside) for rule in rules.values()])


def is_barred(rule, inside):
    """Whether a rule leads to nothing inside, or has a premise inside."""
    return place_of(rule) not in inside or any([premise in inside for premise in rule[3]])
