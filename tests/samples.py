"""Worlds for the tests: some written by hand, and many made by a seeded row of chances."""

import random

EMPTY = ([], [], [])

# A ring over three hands that what an saw holds up, and one of di and ed that nothing does.
RINGS = (
    [("an", "saw"), ("cy", "map")],
    [
        ("an", "wet", 2, [("an", "saw")]),
        ("bo", "wet", 1, [("an", "wet")]),
        ("cy", "wet", 1, [("bo", "wet"), ("cy", "map")]),
        ("an", "wet", 1, [("cy", "wet")]),
        ("di", "wet", 1, [("an", "wet")]),
        ("di", "ice", 1, [("ed", "ice")]),
        ("ed", "ice", 1, [("di", "ice")]),
        ("cy", "map", 1, [("an", "saw")]),
        ("an", "wet", 2, [("an", "saw"), ("bo", "map")]),
        ("bo", "map", 2, [("an", "saw")]),
        ("bo", "map", 1, [("cy", "map")]),
        ("bo", "wet", 5, [("bo", "map")]),
    ],
    [("an", "bo"), ("an", "cy"), ("bo", "cy"), ("di", "ed")],
)

RINGS_LEAST = {
    ("an", "saw"): 0, ("cy", "map"): 0, ("an", "wet"): 2, ("bo", "wet"): 3, ("cy", "wet"): 4, ("bo", "map"): 1,
}

# A small world that has all parts, to be handed in otherwise in one of them.
PLAIN = (
    [("an", "saw"), ("bo", "map")],
    [("an", "wet", 1, [("an", "saw")]), ("cy", "wet", 2, [("an", "wet"), ("bo", "map")])],
    [("an", "cy"), ("bo", "cy")],
)

HANDS = ["an", "bo", "cy", "di"]
SAYINGS = ["dry", "ice", "wet"]


def made_world(seed, hands=HANDS, sayings=SAYINGS, most_rules=12, most_vouched=3):
    """A world by a seed: any vouched places, rules and roads."""
    chance = random.Random(seed)
    places = [(hand, saying) for hand in hands for saying in sayings]
    vouched = chance.sample(places, chance.randint(0, most_vouched))
    rules = []
    for _ in range(chance.randint(0, most_rules)):
        count = chance.choice([1, 1, 1, 2, 2, 3, len(places) if len(places) < 9 else 8])
        place = chance.choice(places)
        rules.append(place + (chance.randint(1, 3), chance.sample(places, min(count, len(places)))))
    roads = [(hand, other) for hand in hands for other in hands if hand < other and chance.random() < 0.6]
    chance.shuffle(roads)
    return (vouched, rules, roads)


def made_worlds(count):
    return [RINGS, EMPTY] + [made_world(seed) for seed in range(count)]


def small_worlds(count):
    """Worlds of few places, so that all readings of them can be gone through."""
    return [made_world(seed, ["an", "bo"], ["dry", "wet"], 6) for seed in range(count)]


def vouching_worlds(count):
    """Worlds of one to eight vouched places, more rules and all roads."""
    found = []
    for seed in range(count):
        vouched, rules, _ = made_world(seed, ["an", "bo", "cy"], ["dry", "ice", "map", "wet"], 20, 8)
        found.append((vouched, rules, [("an", "bo"), ("an", "cy"), ("bo", "cy")]))
    return found


def letters_of(number):
    """A name of eight letters for a number."""
    found = ""
    for _ in range(8):
        found = "abcdefghijklmnopqrstuvwxyz"[number % 26] + found
        number //= 26
    return found


def world_at_limits():
    """A hundred vouched places, three hundred rules of eight premises and great costs, a hundred roads."""
    hub = letters_of(0)
    hands = [letters_of(number) for number in range(1, 101)]
    vouched = [(hub, letters_of(number)) for number in range(100)]
    cost = 10**20 - 1
    rules = []
    for at, hand in enumerate(hands):
        near = [vouched[(at + step) % 100] for step in range(8)]
        rules.append((hand, "saidlast", cost, [(hand, "saidnext")] + near[1:]))
        rules.append((hand, "saidnext", cost - at, [(hub, letters_of(1000 + at))] + near[1:]))
        rules.append((hub, letters_of(1000 + at), cost, near))
    return (vouched, rules, [(hub, hand) for hand in hands])


def long_chain(count):
    """A world in which each of many places leans on the one ahead."""
    rules = [("an", letters_of(at + 1), 1, [("an", letters_of(at))]) for at in range(count)]
    return ([("an", letters_of(0))], rules, [])
