"""Rings: places each of which leads to the next one, and the last one to the first."""

from leanfar.errors import NoPaper
from leanfar.worlds import are_places


def is_leanings(thing):
    """Whether it is a dict from places to lists of places."""
    if type(thing) != dict or not all([type(onward) == list for onward in thing.values()]):
        return False
    return are_places(list(thing) + [place for onward in thing.values() for place in onward])


def ring_in(leanings):
    """The first of the least rings, from its least place on, or None where there is none."""
    if not is_leanings(leanings):
        raise NoPaper("this is no dict from places to lists of places")
    return least_ring(leanings)


def least_ring(leanings):
    """The first of the least rings of what is known to be leanings, or None where there is none."""
    onward = without_ends(leanings)
    best = None
    for start in sorted(onward):
        ring = ring_from(start, onward)
        # Of rings of like size the first one stays: it begins with a lesser place.
        if ring is not None and (best is None or len(ring) < len(best)):
            best = ring
    return best


def without_ends(leanings):
    """The leanings, in order, of the places that lead on and on: no ring has another one."""
    backward = {}
    for place, onward in leanings.items():
        for following in onward:
            backward.setdefault(following, []).append(place)
    many = {place: len(onward) for place, onward in leanings.items()}
    ends = [place for place in many if many[place] == 0] + [place for place in backward if place not in many]
    while ends:
        end = ends.pop()
        for place in backward.get(end, []):
            many[place] -= 1
            if many[place] == 0:
                ends.append(place)
    return {place: sorted(leanings[place]) for place in many if many[place] > 0}


def ring_from(start, leanings):
    """The first of the least rings whose least place this is, or None where there is none."""
    before = {start: None}
    level = [start]
    # Level by level, each in the order of the ways to it, as the leanings are in order:
    # so the first way that leads back is the ring.
    while level:
        following = []
        for here in level:
            if start in leanings[here]:
                return way_to(here, before)
            for place in leanings[here]:
                if place > start and place in leanings and place not in before:
                    before[place] = here
                    following.append(place)
        level = following
    return None


def way_to(place, before):
    """The way to a place, before telling the one before each, None of the first."""
    way = [place]
    while before[way[-1]] is not None:
        way.append(before[way[-1]])
    return way[::-1]
