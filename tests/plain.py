"""The words of DOC.md for worlds and readings, written down plainly, to hold the program against."""

import itertools
import re


def is_name(thing):
    return type(thing) is str and re.fullmatch("[a-z]{1,8}", thing) is not None


def is_place(thing):
    return type(thing) is tuple and len(thing) == 2 and is_name(thing[0]) and is_name(thing[1])


def are_places(thing):
    return type(thing) is list and all(map(is_place, thing))


def are_unlike(things):
    return not any(one == other for one, other in itertools.combinations(things, 2))


def is_rule(thing):
    if type(thing) is not tuple or len(thing) != 4:
        return False
    hand, saying, cost, premises = thing
    return (
        is_place((hand, saying)) and type(cost) is int and cost > 0
        and are_places(premises) and len(premises) in range(1, 9) and are_unlike(premises)
    )


def is_road(thing):
    return is_place(thing) and sorted(thing) == list(thing) and thing[0] != thing[1]


def is_world(thing):
    if type(thing) is not tuple or len(thing) != 3:
        return False
    vouched, rules, roads = thing
    return (
        are_places(vouched) and are_unlike(vouched)
        and type(rules) is list and all(map(is_rule, rules))
        and type(roads) is list and all(map(is_road, roads)) and are_unlike(roads)
    )


def is_reading(thing):
    return type(thing) is dict and all(
        is_place(place) and type(height) is int and height > -1 for place, height in thing.items()
    )


def is_paper(thing):
    return type(thing) is list and all(
        type(row) is tuple and len(row) == 2 and is_place(row[0]) and type(row[1]) is int for row in thing
    )


def named(world):
    vouched, rules, _ = world
    found = list(vouched)
    for hand, saying, _, premises in rules:
        found += [(hand, saying)] + premises
    return sorted(set(found))


def lives(world, rule):
    hand = rule[0]
    return all(
        other == hand or (hand, other) in world[2] or (other, hand) in world[2] for other, _ in rule[3]
    )


def gives(world, reading, place):
    """The heights that living rules give to a place."""
    found = []
    for rule in world[1]:
        if rule[:2] == place and lives(world, rule) and all(premise in reading for premise in rule[3]):
            found.append(rule[2] + max([reading[premise] for premise in rule[3]]))
    return found


def is_held(world, reading):
    return all(
        place in world[0] or any(reading[place] >= given for given in gives(world, reading, place))
        for place in reading
    )


def is_shut(world, reading):
    for place in world[0]:
        if place not in reading or reading[place] != 0:
            return False
    for rule in world[1]:
        for given in gives(world, reading, rule[:2]):
            if rule[:2] not in reading or reading[rule[:2]] > given:
                return False
    return True


def fits(world, reading):
    return (
        is_held(world, reading) and is_shut(world, reading)
        and all(reading.get(place) == 0 for place in world[0])
    )


def least(world):
    """Begin with what is vouched, and lower the heights as long as any rule gives less."""
    heights = {place: 0 for place in world[0]}
    while True:
        before = dict(heights)
        for place in named(world):
            for given in gives(world, heights, place):
                heights[place] = min(given, heights.get(place, given))
        if heights == before:
            return heights


def reason_of(world, place):
    heights = least(world)
    if place in world[0]:
        return -1
    for number, rule in enumerate(world[1]):
        alone = (world[0], [rule], world[2])
        if rule[:2] == place and gives(alone, heights, place) == [heights.get(place)]:
            return number
    return None


def why(world, place):
    needed = {place}
    while True:
        before = len(needed)
        for here in sorted(needed):
            number = reason_of(world, here)
            if number >= 0:
                needed |= set(world[1][number][3])
        if len(needed) == before:
            break
    heights = least(world)
    rows = sorted((heights[here], here) for here in needed)
    return [(here, reason_of(world, here)) for _, here in rows]


def why_shows(world, place, paper):
    places = [row[0] for row in paper]
    if not paper or places[-1] != place or not are_unlike(places):
        return False
    for at, (here, number) in enumerate(paper):
        if number == -1 and here in world[0]:
            continue
        if number not in range(len(world[1])):
            return False
        rule = world[1][number]
        if rule[:2] != here or not lives(world, rule) or not all(premise in places[:at] for premise in rule[3]):
            return False
    return True


def why_not(world, place):
    heights = least(world)
    inside = [place]
    for here in inside:
        for rule in world[1]:
            if rule[:2] == here and lives(world, rule):
                first = [premise for premise in rule[3] if premise not in heights][0]
                if first not in inside:
                    inside.append(first)
    return sorted(inside)


def why_not_shows(world, place, paper):
    if place not in paper or not are_unlike(paper) or sorted(paper) != paper:
        return False
    for here in paper:
        if here in world[0]:
            return False
        for rule in world[1]:
            if rule[:2] == here and lives(world, rule) and not any(premise in paper for premise in rule[3]):
                return False
    return True


def vouching(world, vouched):
    return (vouched, world[1], world[2])


def falls(world, places):
    before = least(world)
    after = least(vouching(world, [place for place in world[0] if place not in places]))
    return (
        [place for place in sorted(before) if place not in after],
        [place for place in sorted(after) if after[place] > before[place]],
    )


def gains(world, places):
    before = least(world)
    after = least(vouching(world, world[0] + places))
    return (
        [place for place in sorted(after) if place not in before],
        [place for place in sorted(before) if after[place] < before[place]],
    )


def needed(world, place):
    return [one for one in sorted(world[0]) if place in falls(world, [one])[0]]


def _parts(places):
    """All parts of a list, the small ones first, each in order."""
    for count in range(len(places) + 1):
        for part in itertools.combinations(sorted(places), count):
            yield list(part)


def _least_ones(parts, does):
    found = []
    for part in parts:
        if not any(set(other) <= set(part) for other in found) and does(part):
            found.append(part)
    return sorted(found)


def enough(world, place):
    return _least_ones(_parts(world[0]), lambda part: place in least(vouching(world, part)))


def cuts(world, place):
    def cut(part):
        return place not in least(vouching(world, [one for one in world[0] if one not in part]))
    return _least_ones(_parts(world[0]), cut)


def ring_in(leanings):
    """Go all ways through unlike places, and of those that come back take the first of the least."""
    found = []
    ways = [[place] for place in leanings]
    while ways:
        way = ways.pop()
        for place in leanings.get(way[-1], []):
            if place == way[0]:
                found.append(way)
            elif place not in way:
                ways.append(way + [place])
    found = [way for way in found if way[0] == min(way)]
    return min(found, key=lambda way: (len(way), way), default=None)


def are_leanings(thing):
    return type(thing) is dict and all(is_place(place) and are_places(thing[place]) for place in thing)


def is_letter(thing):
    if type(thing) is not tuple or len(thing) not in (2, 3) or type(thing[0]) is not str or not is_name(thing[1]):
        return False
    if thing[0] == "holds":
        return len(thing) == 3 and type(thing[2]) is int and thing[2] > -1
    return len(thing) == 2 and thing[0] in ["open", "heard"]
