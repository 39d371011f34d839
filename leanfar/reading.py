"""Readings of a world, and what shows why a place is believed or not."""

from heapq import heappop, heappush

from leanfar.errors import Held, NoPaper, NotHeld
from leanfar.worlds import are_places, check_place, check_world, is_place, is_whole, living, place_of


def is_reading(thing):
    """Whether it is a dict from places to whole numbers from 0 on."""
    if type(thing) != dict:
        return False
    return all(is_place(place) and is_whole(height) and height >= 0 for place, height in thing.items())


def check_reading(thing):
    """Refuse what is no reading."""
    if not is_reading(thing):
        raise NoPaper("this is no reading")


def height_by(rule, heights):
    """What a rule gives by these heights, None where a premise has none."""
    premises = rule[3]
    if not all(premise in heights for premise in premises):
        return None
    return rule[2] + max(heights[premise] for premise in premises)


def least_given(world, heights):
    """The least that any living rule gives by these heights, by places."""
    found = {}
    rules = living(world)
    for rule in rules.values():
        place = place_of(rule)
        height = height_by(rule, heights)
        if height is not None and (place not in found or height < found[place]):
            found[place] = height
    return found


def is_held(world, reading):
    """Whether each place of a reading is vouched, or no lower than a living rule gives it."""
    check_world(world)
    check_reading(reading)
    vouched = set(world[0])
    given = least_given(world, reading)
    for place, height in reading.items():
        if place not in vouched and (place not in given or height < given[place]):
            return False
    return True


def is_shut(world, reading):
    """Whether vouched places have 0, and what living rules lead to is no higher than they give."""
    check_world(world)
    check_reading(reading)
    if not all(reading.get(place, None) == 0 for place in world[0]):
        return False
    given = least_given(world, reading)
    return all(place in reading and reading[place] <= given[place] for place in given)


def fits(world, reading):
    """Whether a reading is held and shut."""
    # A shut reading has each vouched place at 0 already.
    return is_held(world, reading) and is_shut(world, reading)


def least(world):
    """The least reading: the believed places with their heights."""
    check_world(world)
    return least_heights(world[0], living(world))


def least_heights(vouched, rules):
    """The least heights that living rules give where just these places are vouched."""
    leaning = numbers_by_premise(rules)
    lacking = {number: len(rule[3]) for number, rule in rules.items()}
    heights = {}
    queue = sorted([(0, place) for place in vouched])
    while queue:
        height, place = heappop(queue)
        if place in heights:
            continue
        heights[place] = height
        for number in leaning.get(place, []):
            lacking[number] -= 1
            # The lowest come first, so the last premise to come is the greatest.
            if lacking[number] == 0:
                rule = rules[number]
                heappush(queue, (height + rule[2], place_of(rule)))
    return heights


def numbers_by_premise(rules):
    """The numbers of the rules that have each premise."""
    found = {}
    for number, rule in rules.items():
        for premise in rule[3]:
            found.setdefault(premise, []).append(number)
    return found


def reasons(world, heights):
    """The reasons of all places of the least reading, whose heights these are."""
    found = {place: -1 for place in world[0]}
    rules = living(world)
    for number, rule in rules.items():
        place = place_of(rule)
        if place in heights and place not in found and height_by(rule, heights) == heights[place]:
            found[place] = number
    return found


def reason_of(world, place):
    """The reason of a place: -1, the number of a rule, or None where it is not believed."""
    check_world(world)
    check_place(place)
    return reasons(world, least(world)).get(place, None)


def reached(place, onward):
    """The place and all that is reached from it, onward telling the next ones of each."""
    found = {place: True}
    waiting = [place]
    while waiting:
        here = waiting.pop()
        for following in onward.get(here, []):
            if following not in found:
                found[following] = True
                waiting.append(following)
    return list(found)


def why(world, place):
    """The paper that shows why a place is believed: it and all on which the reasons lean."""
    check_world(world)
    check_place(place)
    heights = least(world)
    if place not in heights:
        raise NotHeld("the place is not believed")
    numbers = reasons(world, heights)
    onward = {leaning: world[1][number][3] for leaning, number in numbers.items() if number >= 0}
    rows = sorted([(heights[needed], needed) for needed in reached(place, onward)])
    return [(needed, numbers[needed]) for _, needed in rows]


def is_paper(thing):
    """Whether it is a list of tuples of a place and a whole number."""
    return type(thing) == list and all(is_paper_row(row) for row in thing)


def is_paper_row(thing):
    """Whether it is a tuple of a place and a whole number."""
    if type(thing) != tuple or len(thing) != 2:
        return False
    return is_place(thing[0]) and is_whole(thing[1])


def why_shows(world, place, paper):
    """Whether a paper shows why a place is believed."""
    check_world(world)
    check_place(place)
    if not is_paper(paper):
        raise NoPaper("this is no list of tuples of a place and a whole number")
    sources = sources_by_number(world)
    ahead = {}
    for leaning, number in paper:
        if leaning in ahead or not stands(leaning, sources.get(number, {}), ahead):
            return False
        ahead[leaning] = True
    return len(paper) > 0 and paper[-1][0] == place


def sources_by_number(world):
    """What places may lean on, by the numbers that a paper tells: -1, and living rules."""
    found = {-1: {place: [] for place in world[0]}}
    rules = living(world)
    for number, rule in rules.items():
        found[number] = {place_of(rule): rule[3]}
    return found


def stands(place, source, ahead):
    """Whether a source has the place, and all on which it leans by it is ahead."""
    return place in source and all(premise in ahead for premise in source[place])


def why_not(world, place):
    """The set that shows why a place is not believed, in order."""
    check_world(world)
    check_place(place)
    heights = least(world)
    if place in heights:
        raise Held("the place is believed")
    onward = {}
    rules = living(world)
    for rule in rules.values():
        lacking = [premise for premise in rule[3] if premise not in heights]
        # A rule that lacks none leads to a believed place, which is never in.
        if lacking:
            onward.setdefault(place_of(rule), []).append(lacking[0])
    return sorted(reached(place, onward))


def why_not_shows(world, place, paper):
    """Whether a set shows why a place is not believed."""
    check_world(world)
    check_place(place)
    if not are_places(paper):
        raise NoPaper("this is no list of places")
    if place not in paper or paper != sorted(set(paper)):
        return False
    inside = {other: True for other in paper}
    if any(vouched in inside for vouched in world[0]):
        return False
    rules = living(world)
    return all(is_barred(rule, inside) for rule in rules.values())


def is_barred(rule, inside):
    """Whether a rule leads to nothing inside, or has a premise inside."""
    return place_of(rule) not in inside or any(premise in inside for premise in rule[3])
