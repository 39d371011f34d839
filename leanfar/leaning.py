"""What leans on what: what goes and comes with places, and what a place needs."""

from leanfar.errors import Held, NoPlace, NotHeld, NotVouched
from leanfar.reading import least_heights, reached
from leanfar.worlds import are_unlike_places, check_place, check_world, living, place_of


def falls(world, places):
    """What is believed no more, and what is higher, where vouched places are taken back."""
    check_world(world)
    vouched = {place: True for place in world[0]}
    if not are_unlike_places(places) or not all(place in vouched for place in places):
        raise NotVouched("these are no unlike places that are vouched")
    rules = living(world)
    before = least_heights(list(vouched), rules)
    for place in places:
        del vouched[place]
    after = least_heights(list(vouched), rules)
    return lacking(before, after), lowered(before, after)


def gains(world, places):
    """What is newly believed, and what is lower, where places are vouched, too."""
    check_world(world)
    vouched = {place: True for place in world[0]}
    if not are_unlike_places(places):
        raise NoPlace("these are no unlike places")
    if any(place in vouched for place in places):
        raise Held("one of these places is vouched")
    rules = living(world)
    before = least_heights(world[0], rules)
    after = least_heights(world[0] + places, rules)
    return lacking(after, before), lowered(after, before)


def lacking(heights, others):
    """The places that have a height here and none there, in order."""
    return sorted([place for place in heights if place not in others])


def lowered(heights, others):
    """The places that have a height here and a greater one there, in order."""
    return sorted([place for place in heights if place in others and heights[place] < others[place]])


def needed(world, place):
    """The vouched places each of which alone, taken back, leaves a place not believed, in order."""
    rules = rules_to_believed(world, place)
    members = sorted(world[0])
    every = (1 << len(members)) - 1
    # In case k all are vouched but the k-th.
    vouched = {member: every ^ (1 << at) for at, member in enumerate(members)}
    # Where it needs each of them it is believed in no case at all.
    lost = every ^ cases_believed(vouched, rules).get(place, 0)
    return members_of(lost, members)


def enough(world, place):
    """All least sets of vouched places by which alone a place would be believed, in order."""
    rules = rules_to_believed(world, place)
    members = vouched_below(world, place, rules)
    # In case k just the members of set k are vouched.
    vouched = {member: sets_with(at, len(members)) for at, member in enumerate(members)}
    return least_sets(cases_believed(vouched, rules)[place], members)


def cuts(world, place):
    """All least sets of vouched places that, taken back, leave a place not believed, in order."""
    rules = rules_to_believed(world, place)
    members = vouched_below(world, place, rules)
    # In case k just the members of set k are taken back.
    vouched = {member: sets_without(at, len(members)) for at, member in enumerate(members)}
    lost = all_sets(len(members)) ^ cases_believed(vouched, rules)[place]
    return least_sets(lost, members)


def rules_to_believed(world, place):
    """The living rules, by their numbers, of a world in which the place is believed."""
    check_world(world)
    check_place(place)
    rules = living(world)
    if place not in least_heights(world[0], rules):
        raise NotHeld("the place is not believed")
    return rules


def vouched_below(world, place, rules):
    """The vouched places on which a place may rest in any way, in order."""
    onward = {}
    for rule in rules.values():
        onward.setdefault(place_of(rule), []).extend(rule[3])
    below = {other: True for other in reached(place, onward)}
    return sorted([member for member in world[0] if member in below])


def cases_believed(vouched, rules):
    """By places, the cases in which each is believed, of the cases in which each is vouched.

    Bit k of a number stands for case k, so one sign goes through all cases at once.
    """
    cases = {place: vouched[place] for place in vouched}
    leaning = numbers_by_premise(rules)
    waiting = list(rules)
    while waiting:
        following = {}
        for number in waiting:
            place = place_of(rules[number])
            known = cases.get(place, 0)
            believed = known | cases_by(rules[number], cases)
            if believed != known:
                cases[place] = believed
                for later in leaning.get(place, []):
                    following[later] = True
        waiting = list(following)
    return cases


def numbers_by_premise(rules):
    """The numbers of the rules that have each premise."""
    found = {}
    for number, rule in rules.items():
        for premise in rule[3]:
            found.setdefault(premise, []).append(number)
    return found


def cases_by(rule, cases):
    """The cases in which all premises of a rule are believed."""
    # All bits of -1 are 1.
    common = -1
    for premise in rule[3]:
        common &= cases.get(premise, 0)
    return common


# Sets of members have numbers, too: set k has the member at n just where bit n of k is 1.


def all_sets(count):
    """The cases of all sets of so many members."""
    return (1 << (1 << count)) - 1


def sets_without(at, count):
    """The cases of all sets that lack the member at this place."""
    # As many in a row lack it as then have it, and so on by turns.
    return all_sets(count) // ((1 << (1 << at)) + 1)


def sets_with(at, count):
    """The cases of all sets that have the member at this place."""
    return all_sets(count) ^ sets_without(at, count)


def least_sets(cases, members):
    """Those of these sets that have none of them as a part, as lists, in order.

    Each set that has one of them as a part must be one of them, too.
    """
    greater = 0
    for at in range(len(members)):
        # The member put in, the number of a set is greater by its bit.
        greater |= (cases & sets_without(at, len(members))) << (1 << at)
    least = cases & (cases ^ greater)
    return sorted([members_of(number, members) for number in bits_of(least)])


def members_of(number, members):
    """The members of a set, by its number, in their order."""
    return [members[at] for at in bits_of(number)]


def bits_of(number):
    """Where a number has bits that are 1, from the least on."""
    found = []
    while number:
        lowest = number & -number
        found.append(lowest.bit_length() - 1)
        number ^= lowest
    return found
