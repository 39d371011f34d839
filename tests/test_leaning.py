"""What leans on what (points 12, 13 and 14)."""

from leanfar.leaning import cuts, enough, falls, gains, needed
from leanfar.reading import least
from tests import plain
from tests.asking import ODD, Asking, changed, deep_list, list_in_itself
from tests.samples import (
    EMPTY, PLAIN, RINGS, RINGS_LEAST, letters_of, long_chain, made_worlds, vouching_worlds, world_at_limits,
)

SAW, MAP, WET = ("an", "saw"), ("cy", "map"), ("an", "wet")
BO_MAP, BO_WET, CY_WET = ("bo", "map"), ("bo", "wet"), ("cy", "wet")
ICES = [("di", "ice"), ("ed", "ice")]


def sayings(letters):
    return [("an", letter) for letter in letters]


def leaning(rows, vouched):
    """A world of one hand: each row a letter that leans on letters, with cost 1."""
    rules = [("an", row[0], 1, sayings(row[1:])) for row in rows]
    return (sayings(vouched), rules, [])


class Falls(Asking):
    """What goes with places that are taken back."""

    def test_of_nothing(self):
        self.tells(([], []), falls, EMPTY, [])
        self.tells(([], []), falls, RINGS, [])
        self.tells(([SAW], []), falls, ([SAW], [], []), [SAW])

    def test_some_rise_and_some_go(self):
        self.tells(([SAW], [WET, BO_WET, CY_WET]), falls, RINGS, [SAW])
        self.tells(([], [BO_MAP, MAP]), falls, RINGS, [MAP])
        self.tells((sorted(RINGS_LEAST), []), falls, RINGS, [MAP, SAW])
        self.tells((sorted(RINGS_LEAST), []), falls, RINGS, [SAW, MAP])

    def test_a_whole_ring_goes_by_one_place_and_nothing_by_another(self):
        world = leaning(["ba", "cb", "bc", "dc"], "ae")
        self.tells((sayings("abcd"), []), falls, world, sayings("a"))
        self.tells((sayings("e"), []), falls, world, sayings("e"))

    def test_a_vouched_place_that_leans_as_well_may_stay(self):
        world = leaning(["ba", "cb"], "ab")
        self.tells(([], sayings("bc")), falls, world, sayings("b"))
        self.tells((sayings("a"), []), falls, world, sayings("a"))
        self.tells((sayings("abc"), []), falls, world, sayings("ba"))

    def test_what_is_no_lower_by_it_is_not_told(self):
        world = leaning(["ca", "cb"], "ab")
        self.tells((sayings("a"), []), falls, world, sayings("a"))

    def test_of_many_worlds(self):
        for world in made_worlds(100) + vouching_worlds(30):
            for count in range(len(world[0]) + 1):
                self.tells(plain.falls(world, world[0][:count]), falls, world, world[0][:count])
                self.tells(plain.falls(world, world[0][count:]), falls, world, world[0][count:])

    def test_at_the_limits(self):
        world = world_at_limits()
        for places in [world[0], world[0][:1], world[0][40:]]:
            self.tells(plain.falls(world, places), falls, world, places)

    def test_of_any_size(self):
        world = long_chain(20000)
        gone, risen = falls(world, world[0])
        self.assertEqual((len(gone), risen), (20001, []))

    def test_refused(self):
        for places in changed([SAW, MAP]):
            if not plain.are_places(places) or not plain.are_unlike(places) or not set(places) <= {SAW, MAP}:
                self.refuses("NotVouched", falls, RINGS, places)
        for places in [[WET], [SAW, WET], [SAW, SAW], [("zo", "zo")], (SAW,), SAW, {SAW: 0}, [list(SAW)]]:
            self.refuses("NotVouched", falls, RINGS, places)
        many = [("an", letters_of(at)) for at in range(50000)]
        for places in [deep_list(200000), list_in_itself(), [SAW] * 10**5, many]:
            self.refuses("NotVouched", falls, RINGS, places)


class Gains(Asking):
    """What comes with places that are vouched, too."""

    def test_of_nothing(self):
        self.tells(([], []), gains, EMPTY, [])
        self.tells(([SAW], []), gains, EMPTY, [SAW])
        self.tells(([], []), gains, RINGS, [])

    def test_some_come_and_some_fall(self):
        self.tells((ICES, []), gains, RINGS, ICES[:1])
        self.tells((ICES, []), gains, RINGS, ICES)
        self.tells((ICES, [WET, BO_WET, CY_WET]), gains, RINGS, [ICES[1], WET])
        self.tells(([("zo", "zo")], []), gains, RINGS, [("zo", "zo")])

    def test_one_that_was_believed_already_is_not_newly_believed(self):
        self.tells(([], [WET, BO_WET, CY_WET]), gains, RINGS, [CY_WET])
        self.tells(([], [BO_MAP]), gains, RINGS, [BO_MAP])

    def test_a_whole_ring_comes_by_one_place(self):
        world = leaning(["ba", "cb", "bc", "dce"], "e")
        self.tells((sayings("abcd"), []), gains, world, sayings("a"))
        self.tells((sayings("bcd"), []), gains, world, sayings("c"))
        self.tells((sayings("f"), []), gains, world, sayings("f"))

    def test_of_many_worlds(self):
        for world in made_worlds(100) + vouching_worlds(30):
            free = [place for place in plain.named(world) if place not in world[0]] + [("zo", "zo")]
            for places in [free, free[::-1][:2], free[:1], free[1::2]]:
                self.tells(plain.gains(world, places), gains, world, places)

    def test_of_any_size(self):
        world = long_chain(20000)
        come, fallen = gains(world, [("an", letters_of(10000))])
        self.assertEqual((come, len(fallen)), ([], 10001))

    def test_refused(self):
        for places in changed([WET, BO_WET]):
            if not plain.are_places(places) or not plain.are_unlike(places):
                self.refuses("NoPlace", gains, RINGS, places)
        for places in [[SAW], [MAP], [WET, SAW], [SAW, MAP, WET]]:
            self.refuses("Held", gains, RINGS, places)
        for places in [[SAW, SAW], [WET, WET], (WET,), WET, [SAW, None], [SAW, ("an", "")]]:
            self.refuses("NoPlace", gains, RINGS, places)
        for places in [deep_list(200000), list_in_itself(), [WET] * 10**5]:
            self.refuses("NoPlace", gains, RINGS, places)
        # A place that is believed, but not vouched, may be handed in.
        self.tells(([], [WET, BO_WET, CY_WET]), gains, RINGS, [WET])


class Needs(Asking):
    """What a place needs, and what is enough for it."""

    def tells_of(self, world, place, one_by_one, least_enough, least_cuts):
        self.tells(one_by_one, needed, world, place)
        self.tells(least_enough, enough, world, place)
        self.tells(least_cuts, cuts, world, place)

    def test_a_place_that_is_vouched_alone(self):
        self.tells_of(([SAW, MAP], [], []), SAW, [SAW], [[SAW]], [[SAW]])

    def test_one_rest_or_another(self):
        for place in [MAP, WET, BO_MAP, BO_WET, CY_WET]:
            self.tells_of(RINGS, place, [], [[SAW], [MAP]], [[SAW, MAP]])
        self.tells_of(RINGS, SAW, [SAW], [[SAW]], [[SAW]])

    def test_all_of_several(self):
        world = leaning(["dcab"], "cbae")
        self.tells_of(world, ("an", "d"), sayings("abc"), [sayings("abc")], [sayings("a"), sayings("b"), sayings("c")])

    def test_several_least_ones_of_like_size(self):
        world = leaning(["xab", "xcb", "xca"], "cab")
        pairs = [sayings("ab"), sayings("ac"), sayings("bc")]
        self.tells_of(world, ("an", "x"), [], pairs, pairs)

    def test_least_ones_of_unlike_sizes(self):
        world = leaning(["xab", "xc", "xabc", "xdea"], "edcba")
        self.tells_of(world, ("an", "x"), [], [sayings("ab"), sayings("ade"), sayings("c")],
                      [sayings("ac"), sayings("bcd"), sayings("bce")])
        self.tells_of(leaning(["xab", "xabc"], "abc"), ("an", "x"), sayings("ab"), [sayings("ab")],
                      [sayings("a"), sayings("b")])

    def test_a_vouched_place_that_leans_as_well(self):
        world = leaning(["ba", "cb"], "ab")
        for letter in "bc":
            self.tells_of(world, ("an", letter), [], [sayings("a"), sayings("b")], [sayings("ab")])

    def test_rings_are_no_rest(self):
        world = leaning(["ba", "bc", "cb", "dcb"], "a")
        for letter in "bcd":
            self.tells_of(world, ("an", letter), sayings("a"), [sayings("a")], [sayings("a")])

    def test_only_living_rules_count(self):
        rules = [("an", "x", 1, [("bo", "a")]), ("an", "x", 1, [("an", "a")])]
        vouched = [("bo", "a"), ("an", "a")]
        self.tells_of((vouched, rules, []), ("an", "x"), [("an", "a")], [[("an", "a")]], [[("an", "a")]])
        self.tells_of((vouched, rules, [("an", "bo")]), ("an", "x"), [], [[("an", "a")], [("bo", "a")]],
                      [[("an", "a"), ("bo", "a")]])

    def test_eight_vouched_places(self):
        eight = "abcdefgh"
        self.tells_of(leaning(["x" + eight], eight), ("an", "x"), sayings(eight), [sayings(eight)],
                      [sayings(letter) for letter in eight])
        self.tells_of(leaning(["x" + letter for letter in eight], eight), ("an", "x"), [],
                      [sayings(letter) for letter in eight], [sayings(eight)])
        fours = ["xabcd", "xefgh", "xaceg", "xbdfh", "xadeh"]
        world = leaning(fours, eight)
        self.tells([], needed, world, ("an", "x"))
        self.tells(sorted(sayings(row[1:]) for row in fours), enough, world, ("an", "x"))
        self.tells(plain.cuts(world, ("an", "x")), cuts, world, ("an", "x"))

    def test_somewhat_more_vouched_places(self):
        letters = "abcdefghijkl"
        world = leaning(["xabcdefgh", "yxijkl", "zy", "zab"], letters)
        self.tells([sayings("ab")], enough, world, ("an", "z"))
        self.tells([sayings("a"), sayings("b")], cuts, world, ("an", "z"))
        self.tells([sayings(letters)], enough, world, ("an", "y"))
        self.tells([sayings(letter) for letter in letters], cuts, world, ("an", "y"))
        # Places that have nothing to do with it are no burden.
        many = ([("bo", letters_of(at)) for at in range(90)] + world[0], world[1], [])
        self.tells([sayings("ab")], enough, many, ("an", "z"))
        self.tells([sayings("a"), sayings("b")], cuts, many, ("an", "z"))

    def test_each_of_the_one_family_meets_each_of_the_other(self):
        many = 0
        for world in vouching_worlds(60):
            for place in least(world):
                for one in enough(world, place):
                    for other in cuts(world, place):
                        self.assertTrue(set(one) & set(other))
                        many += 1
        self.assertGreater(many, 500)

    def test_of_many_worlds(self):
        for world in made_worlds(60):
            for place in plain.least(world):
                self.tells_of(world, place, plain.needed(world, place), plain.enough(world, place),
                              plain.cuts(world, place))

    def test_of_worlds_with_more_vouched_places(self):
        for world in vouching_worlds(12):
            for place in sorted(plain.least(world))[-3:]:
                self.tells_of(world, place, plain.needed(world, place), plain.enough(world, place),
                              plain.cuts(world, place))

    def test_needed_at_the_limits(self):
        world = world_at_limits()
        for place in [world[1][0][:2], world[1][250][:2], world[0][7]]:
            expected = [one for one in world[0] if place not in least((sorted(set(world[0]) - {one}), *world[1:]))]
            self.tells(sorted(expected), needed, world, place)
        hundred = leaning([], "")
        hundred = ([("an", letters_of(at)) for at in range(100)], [("an", "x", 1, [("an", letters_of(99))])], [])
        self.tells([("an", letters_of(99))], needed, hundred, ("an", "x"))

    def test_eight_vouched_places_and_three_hundred_rules(self):
        vouched = sayings("abcdefgh")
        rules = []
        for at in range(292):
            near = [vouched[(at + step) % 8] for step in range(at % 5)] + [("an", letters_of(at - 1))] * (at > 0)
            rules.append(("an", letters_of(at), 1 + at % 9, near or vouched[:1]))
        place = ("an", letters_of(291))
        self.tells(vouched, needed, (vouched, rules[::-1], []), place)
        self.tells([vouched], enough, (vouched, rules[::-1], []), place)
        self.tells([[one] for one in vouched], cuts, (vouched, rules[::-1], []), place)

    def test_refused(self):
        for function in [needed, enough, cuts]:
            for place in changed(WET):
                if not plain.is_place(place):
                    self.refuses("NoPlace", function, RINGS, place)
                elif place not in RINGS_LEAST:
                    self.refuses("NotHeld", function, RINGS, place)
            for place in ICES + [("di", "wet"), ("zo", "zo")]:
                self.refuses("NotHeld", function, RINGS, place)
            self.refuses("NotHeld", function, EMPTY, WET)
            for place in [deep_list(200000), list_in_itself(), "a" * 10**5, (WET,) * 10**5]:
                self.refuses("NoPlace", function, RINGS, place)


class WhatIsNoWorld(Asking):
    """What is no world is refused ahead of all else."""

    def test_refused(self):
        for thing in changed(PLAIN):
            if not plain.is_world(thing):
                for function in [falls, gains]:
                    self.refuses("NoWorld", function, thing, [])
                for function in [needed, enough, cuts]:
                    self.refuses("NoWorld", function, thing, SAW)

    def test_refused_with_another_wrong_argument(self):
        for function in [falls, gains, needed, enough, cuts]:
            for thing in ODD:
                self.refuses("NoWorld", function, thing, thing)
                self.refuses("NoWorld", function, thing, [WET])
                self.refuses("NoWorld", function, thing, WET)
