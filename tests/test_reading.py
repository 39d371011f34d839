"""Readings and what shows why (points 7 to 11)."""

import itertools

from leanfar.reading import fits, is_held, is_shut, least, reason_of, why, why_not, why_not_shows, why_shows
from tests import plain
from tests.asking import Asking, changed
from tests.samples import (
    EMPTY, PLAIN, RINGS, RINGS_LEAST, letters_of, long_chain, made_worlds, small_worlds, world_at_limits,
)

SAW, MAP, WET = ("an", "saw"), ("cy", "map"), ("an", "wet")
WHY_CY_WET = [(SAW, -1), (MAP, -1), (WET, 0), (("bo", "wet"), 1), (("cy", "wet"), 2)]
WHY_NOT_DI_WET = [WET, ("di", "wet")]


def asked_places(world):
    """All that is named, and some that is not."""
    return plain.named(world) + [("zo", "wet"), ("an", "zo")]


class Readings(Asking):
    """Whether a reading is held, is shut, fits."""

    def tells_of(self, world, reading, held, shut):
        self.tells(held, is_held, world, reading)
        self.tells(shut, is_shut, world, reading)
        self.tells(held and shut, fits, world, reading)

    def test_nothing(self):
        self.tells_of(EMPTY, {}, True, True)
        self.tells_of(EMPTY, {WET: 0}, False, True)
        self.tells_of(([WET], [], []), {}, True, False)

    def test_vouched_places(self):
        world = ([SAW], [], [])
        self.tells_of(world, {SAW: 0}, True, True)
        for height in [1, 5, 10**40]:
            self.tells_of(world, {SAW: height}, True, False)

    def test_a_rule_of_several_premises(self):
        world = ([SAW, MAP], [("an", "wet", 2, [MAP, SAW])], [("an", "cy")])
        for height, held, shut in [(2, True, True), (1, False, True), (3, True, False), (0, False, True)]:
            self.tells_of(world, {SAW: 0, MAP: 0, WET: height}, held, shut)
        self.tells_of(world, {SAW: 0, MAP: 0}, True, False)
        self.tells_of(world, {SAW: 0, WET: 2}, False, False)
        self.tells_of(world, {SAW: 1, MAP: 4, WET: 6}, True, False)
        self.tells_of(world, {SAW: 1, MAP: 4, WET: 5}, False, False)

    def test_a_rule_that_does_not_live_gives_nothing(self):
        world = ([SAW, MAP], [("an", "wet", 2, [MAP, SAW])], [])
        self.tells_of(world, {SAW: 0, MAP: 0}, True, True)
        self.tells_of(world, {SAW: 0, MAP: 0, WET: 2}, False, True)

    def test_near_by_being_the_hands_own_or_by_a_road_either_way(self):
        for hand, other in [("an", "bo"), ("bo", "an")]:
            world = ([(other, "saw")], [(hand, "wet", 1, [(other, "saw")])], [])
            self.tells_of(world, {(other, "saw"): 0}, True, True)
            joined = (world[0], world[1], [("an", "bo")])
            self.tells_of(joined, {(other, "saw"): 0}, True, False)
            self.tells_of(joined, {(other, "saw"): 0, (hand, "wet"): 1}, True, True)
        self.tells_of(([SAW], [("an", "wet", 1, [SAW])], []), {SAW: 0, WET: 1}, True, True)

    def test_a_ring_does_not_hold_itself_up(self):
        world = ([], [("di", "ice", 1, [("ed", "ice")]), ("ed", "ice", 1, [("di", "ice")])], [("di", "ed")])
        self.tells_of(world, {}, True, True)
        for one, other in itertools.product([0, 1, 2, 10**30, 10**30 + 1], repeat=2):
            self.tells(False, is_held, world, {("di", "ice"): one, ("ed", "ice"): other})
        own = ([], [("di", "ice", 1, [("di", "ice")])], [])
        self.tells_of(own, {("di", "ice"): 3}, False, True)

    def test_the_least_of_several_rules_counts(self):
        world = ([SAW], [("an", "wet", cost, [SAW]) for cost in (4, 2, 2, 3)], [])
        for height, held, shut in [(1, False, True), (2, True, True), (3, True, False), (4, True, False)]:
            self.tells_of(world, {SAW: 0, WET: height}, held, shut)

    def test_a_vouched_place_that_a_rule_leads_to(self):
        world = ([SAW, WET], [("an", "wet", 2, [SAW])], [])
        for height, shut in [(0, True), (1, False), (2, False), (9, False)]:
            self.tells_of(world, {SAW: 0, WET: height}, True, shut)

    def test_numbers_greater_than_any_handed_in(self):
        cost = 10**20 - 1
        world = ([SAW], [("an", "wet", cost, [SAW]), ("an", "ice", cost, [WET])], [])
        heights = {SAW: 0, WET: cost, ("an", "ice"): 2 * cost}
        self.tells_of(world, heights, True, True)
        self.tells_of(world, {**heights, ("an", "ice"): 2 * cost - 1}, False, True)
        self.tells_of(world, {**heights, ("an", "ice"): 10**5000}, True, False)

    def test_all_readings_of_small_worlds(self):
        for world in small_worlds(30):
            places = plain.named(world)
            heights = plain.least(world)
            for row in itertools.product([None, 0, 1, 2, 4], repeat=len(places)):
                reading = {place: height for place, height in zip(places, row) if height is not None}
                held, shut = is_held(world, reading), is_shut(world, reading)
                self.assertIs(held, plain.is_held(world, reading))
                self.assertIs(shut, plain.is_shut(world, reading))
                self.assertIs(fits(world, reading), plain.fits(world, reading))
                self.assertEqual(fits(world, reading), reading == heights)
                if held:
                    self.assertTrue(all(heights.get(place, 10**9) <= reading[place] for place in reading))
                if shut:
                    self.assertTrue(all(reading[place] <= heights[place] for place in heights))

    def test_the_order_in_which_a_reading_was_filled_is_nothing(self):
        for world in made_worlds(30):
            heights = plain.least(world)
            backward = {place: heights[place] for place in reversed(list(heights))}
            for function in [is_held, is_shut, fits]:
                self.tells(True, function, world, backward)

    def test_of_any_size(self):
        world = long_chain(20000)
        reading = {("an", letters_of(at)): at for at in range(20001)}
        self.assertIs(fits(world, reading), True)
        reading[("an", letters_of(20000))] = 20001
        self.assertEqual((is_held(world, reading), is_shut(world, reading)), (True, False))
        reading[("an", letters_of(20000))] = 19999
        self.assertEqual((is_held(world, reading), is_shut(world, reading)), (False, True))

    def test_what_is_no_reading(self):
        for reading in [{WET: -1}, {WET: True}, {WET: False}, {WET: None}, {WET: "0"}, {"an": 0}, {("an", ""): 0},
                        {("an", "wet", "wet"): 0}, [(WET, 0)], ((WET, 0),), None, {None: 0}, {SAW: 0, WET: -1}]:
            for function in [is_held, is_shut, fits]:
                self.refuses("NoPaper", function, RINGS, reading)


class Least(Asking):
    """The least reading and the reasons."""

    def test_of_the_empty_world(self):
        self.tells({}, least, EMPTY)
        self.tells({}, least, ([], [], [("an", "bo")]))

    def test_of_rings(self):
        self.tells(RINGS_LEAST, least, RINGS)

    def test_a_ring_that_loses_what_it_rested_on_goes(self):
        self.tells({MAP: 0, ("bo", "map"): 1, ("bo", "wet"): 6, ("cy", "wet"): 7, WET: 8}, least,
                   ([MAP], RINGS[1], RINGS[2]))
        self.tells({SAW: 0, WET: 2, MAP: 1, ("bo", "map"): 2, ("bo", "wet"): 3, ("cy", "wet"): 4}, least,
                   ([SAW], RINGS[1], RINGS[2]))
        self.tells({}, least, ([], RINGS[1], RINGS[2]))

    def test_the_greatest_premise_counts_whatever_its_place(self):
        rules = [("an", "ice", 3, [SAW]), ("an", "dry", 1, [SAW])]
        for premises in itertools.permutations([SAW, ("an", "ice"), ("an", "dry")]):
            world = ([SAW], [("an", "wet", 2, list(premises))] + rules, [])
            self.tells({SAW: 0, ("an", "ice"): 3, ("an", "dry"): 1, WET: 5}, least, world)

    def test_eight_premises_all_needed(self):
        premises = [("an", letter) for letter in "abcdefgh"]
        rule = ("an", "wet", 7, premises)
        self.tells({**{place: 0 for place in premises}, WET: 7}, least, (premises, [rule], []))
        for at in range(8):
            vouched = premises[:at] + premises[at + 1:]
            self.tells({place: 0 for place in vouched}, least, (vouched, [rule], []))

    def test_a_long_way_that_is_low_beats_a_short_one_that_is_high(self):
        rules = [("an", "wet", 9, [SAW]), ("an", "a", 1, [SAW]), ("an", "b", 1, [("an", "a")]),
                 ("an", "wet", 1, [("an", "b")]), ("an", "ice", 1, [WET])]
        expected = {SAW: 0, WET: 3, ("an", "a"): 1, ("an", "b"): 2, ("an", "ice"): 4}
        self.tells(expected, least, ([SAW], rules, []))

    def test_of_many_worlds(self):
        for world in made_worlds(300):
            heights = plain.least(world)
            self.tells(heights, least, world)
            self.tells(True, fits, world, least(world))
            for place in asked_places(world):
                self.tells(plain.reason_of(world, place), reason_of, world, place)

    def test_at_the_limits(self):
        world = world_at_limits()
        self.tells(plain.least(world), least, world)
        self.assertEqual(len(least(world)), 400)
        self.assertEqual(max(least(world).values()), 3 * (10**20 - 1))

    def test_reasons(self):
        expected = {SAW: -1, MAP: -1, WET: 0, ("bo", "wet"): 1, ("cy", "wet"): 2, ("bo", "map"): 10}
        for place in asked_places(RINGS):
            self.tells(expected.get(place), reason_of, RINGS, place)

    def test_the_reason_is_the_least_number_that_gives_just_the_height(self):
        rules = [("an", "wet", 4, [SAW]), ("an", "wet", 2, [("bo", "saw")]), ("an", "wet", 2, [SAW]),
                 ("an", "wet", 1, [("an", "ice")]), ("an", "ice", 1, [SAW]), ("an", "wet", 2, [SAW])]
        vouched = [SAW, ("bo", "saw")]
        self.tells(2, reason_of, (vouched, rules, []), WET)
        self.tells(1, reason_of, (vouched, rules, [("an", "bo")]), WET)
        self.tells(0, reason_of, (vouched, rules[:1], []), WET)
        self.tells(-1, reason_of, (vouched + [WET], rules, []), WET)
        self.tells(None, reason_of, ([], rules, []), WET)


class Why(Asking):
    """Papers that show why a place is believed."""

    def test_told(self):
        self.tells(WHY_CY_WET, why, RINGS, ("cy", "wet"))
        self.tells([(SAW, -1)], why, RINGS, SAW)
        self.tells([(SAW, -1), (WET, 0)], why, RINGS, WET)
        self.tells([(MAP, -1), (("bo", "map"), 10)], why, RINGS, ("bo", "map"))

    def test_equal_heights_go_by_places(self):
        vouched = [("bo", "a"), ("an", "b"), ("an", "a")]
        rules = [("an", "z", 1, [("bo", "a")]), ("an", "c", 1, [("an", "b")]), ("an", "y", 1, [("an", "a")]),
                 ("an", "top", 1, [("an", "z"), ("an", "y"), ("an", "c")])]
        expected = [(("an", "a"), -1), (("an", "b"), -1), (("bo", "a"), -1), (("an", "c"), 1), (("an", "y"), 2),
                    (("an", "z"), 0), (("an", "top"), 3)]
        self.tells(expected, why, (vouched, rules, [("an", "bo")]), ("an", "top"))

    def test_told_and_shown_of_many_worlds(self):
        for world in made_worlds(120):
            heights = plain.least(world)
            for place in asked_places(world):
                if place in heights:
                    paper = plain.why(world, place)
                    self.tells(paper, why, world, place)
                    self.tells(True, why_shows, world, place, paper)
                else:
                    self.refuses("NotHeld", why, world, place)

    def test_of_any_depth(self):
        paper = why(long_chain(20000), ("an", letters_of(20000)))
        self.assertEqual(paper[1:], [(("an", letters_of(at + 1)), at) for at in range(20000)])
        self.assertIs(why_shows(long_chain(20000), ("an", letters_of(20000)), paper), True)

    def shows(self, expected, place, paper, world=RINGS):
        self.tells(expected, why_shows, world, place, paper)

    def test_what_shows(self):
        self.shows(True, SAW, [(SAW, -1)])
        self.shows(True, WET, [(MAP, -1), (SAW, -1), (WET, 0)])
        self.shows(True, ("cy", "wet"), [(MAP, -1), (SAW, -1), (WET, 0), (("bo", "map"), 10), (("bo", "wet"), 11),
                                         (("cy", "wet"), 2)])
        self.shows(True, WET, [(SAW, -1), (("bo", "map"), 9), (WET, 8)])
        self.shows(True, MAP, [(SAW, -1), (MAP, 7)])

    def test_what_does_not_show(self):
        for paper in [
            [], [(SAW, -1)], [(WET, 0)], [(WET, 0), (SAW, -1)], [(SAW, -1), (WET, 0), (MAP, -1)],
            [(SAW, -1), (SAW, -1), (WET, 0)], [(SAW, -1), (WET, 0), (WET, 0)], [(SAW, -1), (WET, -1)],
            [(SAW, -1), (WET, 1)], [(SAW, -1), (WET, 7)], [(SAW, -1), (WET, 12)], [(SAW, -1), (WET, 10**30)],
            [(SAW, -1), (WET, -12)], [(SAW, -2), (WET, 0)], [(SAW, 0), (WET, 0)], [(SAW, -1), (WET, 8)],
            [(SAW, -1), (("di", "ice"), 5), (WET, 0)], [(("di", "ice"), 5), (("ed", "ice"), 6), (SAW, -1), (WET, 0)],
        ]:
            self.shows(False, WET, paper)
        self.shows(False, ("di", "wet"), [(SAW, -1), (WET, 0), (("di", "wet"), 4)])
        self.shows(False, ("zo", "wet"), [(SAW, -1)])
        self.shows(False, SAW, [(SAW, -1)], EMPTY)

    def test_a_rule_must_live(self):
        world = ([SAW], [("bo", "wet", 1, [SAW])], [])
        paper = [(SAW, -1), (("bo", "wet"), 0)]
        self.shows(False, ("bo", "wet"), paper, world)
        self.shows(True, ("bo", "wet"), paper, (world[0], world[1], [("an", "bo")]))

    def test_numbers_below_none_are_no_rules_from_behind(self):
        rules = [("an", "wet", 1, [SAW])]
        for number, expected in [(0, True), (-1, False), (-2, False), (1, False)]:
            self.shows(expected, WET, [(SAW, -1), (WET, number)], ([SAW], rules, []))

    def test_papers_otherwise_in_one_part_or_order(self):
        for world in small_worlds(40):
            numbers = range(-2, len(world[1]) + 1)
            for place in plain.least(world):
                paper = plain.why(world, place)
                others = [list(rows) for rows in itertools.permutations(paper)]
                for at, row in enumerate(paper):
                    others.append(paper[:at] + paper[at + 1:])
                    others.append(paper[:at] + [row] + paper[at:])
                    others += [paper[:at] + [(row[0], number)] + paper[at + 1:] for number in numbers]
                    others += [paper[:at] + [(other, row[1])] + paper[at:] for other in plain.named(world)]
                for other in others:
                    for asked in plain.named(world):
                        self.assertIs(why_shows(world, asked, other), plain.why_shows(world, asked, other))

    def test_what_is_no_paper(self):
        for paper in [None, (), ((SAW, -1),), [[SAW, -1]], [(SAW, True)], [(SAW, None)], [(SAW, "1")], [(SAW,)], [SAW],
                      [(SAW, -1, 0)], [("an", -1)], [(["an", "saw"], -1)], [(SAW, -1), None], {SAW: -1}]:
            self.refuses("NoPaper", why_shows, RINGS, SAW, paper)
        self.refuses("NoPaper", why_shows, RINGS, WET, [(WET, 0), (WET, False)])


class WhyNot(Asking):
    """Sets that show why a place is not believed."""

    def test_told(self):
        self.tells([("di", "ice"), ("ed", "ice")], why_not, RINGS, ("di", "ice"))
        self.tells([("di", "ice"), ("ed", "ice")], why_not, RINGS, ("ed", "ice"))
        self.tells([("di", "wet")], why_not, RINGS, ("di", "wet"))
        self.tells([("zo", "wet")], why_not, RINGS, ("zo", "wet"))
        self.tells([WET], why_not, EMPTY, WET)

    def test_the_first_premise_that_is_not_believed_is_put_in(self):
        one, two = ("an", "one"), ("an", "two")
        for premises, put_in in [([SAW, one, two], one), ([two, SAW, one], two), ([one], one)]:
            self.tells(sorted([WET, put_in]), why_not, ([SAW], [("an", "wet", 1, premises)], []), WET)
        rules = [("an", "wet", 1, [two, one]), ("an", "wet", 1, [one, two]), ("an", "wet", 1, [("bo", "wet")])]
        self.tells([one, two, WET], why_not, ([], rules, []), WET)
        self.tells([one, two, WET, ("bo", "wet")], why_not, ([], rules, [("an", "bo")]), WET)

    def test_told_and_shown_of_many_worlds(self):
        for world in made_worlds(120):
            heights = plain.least(world)
            for place in asked_places(world):
                if place in heights:
                    self.refuses("Held", why_not, world, place)
                else:
                    paper = plain.why_not(world, place)
                    self.tells(paper, why_not, world, place)
                    self.tells(True, why_not_shows, world, place, paper)

    def test_of_any_depth(self):
        world = ([], long_chain(20000)[1], [])
        paper = why_not(world, ("an", letters_of(20000)))
        self.assertEqual(paper, [("an", letters_of(at)) for at in range(20001)])
        self.assertIs(why_not_shows(world, ("an", letters_of(20000)), paper), True)
        self.assertIs(why_not_shows(world, ("an", letters_of(20000)), paper[1:]), False)

    def test_what_shows_and_what_does_not(self):
        ice = [("di", "ice"), ("ed", "ice")]
        for paper, expected in [
            (ice, True), (ice[::-1], False), (ice[:1], False), (ice[1:], False), ([], False), (ice + ice[1:], False),
            (ice + [("zo", "wet")], True), ([("zo", "wet")] + ice, False), ([SAW] + ice, False),
            ([("bo", "wet")] + ice, False), ([("di", "ice"), ("di", "wet"), ("ed", "ice")], True),
        ]:
            self.tells(expected, why_not_shows, RINGS, ("di", "ice"), paper)
        self.tells(False, why_not_shows, RINGS, SAW, [SAW])
        self.tells(False, why_not_shows, RINGS, ("di", "wet"), ice)

    def test_all_sets_of_small_worlds(self):
        for world in small_worlds(60):
            places = asked_places(world)
            for count in range(4):
                for paper in itertools.permutations(places, count):
                    for place in places[:3]:
                        expected = plain.why_not_shows(world, place, list(paper))
                        self.assertIs(why_not_shows(world, place, list(paper)), expected)

    def test_what_is_no_list_of_places(self):
        for paper in [None, (), (WET,), [["an", "wet"]], [WET, None], [("an", 1)], [("an",)], {WET: 0}, "an", [SAW, ("", "")]]:
            self.refuses("NoPaper", why_not_shows, RINGS, WET, paper)


TAKING = [
    # a function, what else it is handed with a world, and the refusals of these things
    (least, [], []),
    (is_held, [RINGS_LEAST], ["NoPaper"]), (is_shut, [RINGS_LEAST], ["NoPaper"]), (fits, [RINGS_LEAST], ["NoPaper"]),
    (reason_of, [WET], ["NoPlace"]), (why, [WET], ["NoPlace"]), (why_not, [("di", "wet")], ["NoPlace"]),
    (why_shows, [("cy", "wet"), WHY_CY_WET], ["NoPlace", "NoPaper"]),
    (why_not_shows, [("di", "wet"), WHY_NOT_DI_WET], ["NoPlace", "NoPaper"]),
]

GOOD = {
    is_held: plain.is_reading, is_shut: plain.is_reading, fits: plain.is_reading,
    why_shows: plain.is_paper, why_not_shows: plain.are_places,
}


class Refusals(Asking):
    """Each refusal of anything, and the order of several."""

    def test_what_is_no_world(self):
        bad = [thing for thing in changed(PLAIN) if not plain.is_world(thing)]
        self.assertGreater(len(bad), 1000)
        for function, rest, _ in TAKING:
            for thing in bad:
                self.refuses("NoWorld", function, thing, *rest)

    def test_no_world_ahead_of_all_others(self):
        for function, rest, _ in TAKING:
            for thing in changed(EMPTY):
                if not plain.is_world(thing):
                    self.refuses("NoWorld", function, thing, *[None for _ in rest])

    def test_what_is_no_place(self):
        for function, rest, names in TAKING:
            for place in changed(WET):
                if "NoPlace" in names and not plain.is_place(place):
                    self.refuses("NoPlace", function, RINGS, place, *rest[1:])
                    self.refuses("NoPlace", function, EMPTY, place, *rest[1:])
                    self.refuses("NoPlace", function, RINGS, place, *[None for _ in rest[1:]])

    def test_what_is_no_paper(self):
        for function, rest, names in TAKING:
            if "NoPaper" not in names:
                continue
            for paper in changed(rest[-1]):
                handed = [RINGS] + rest[:-1] + [paper]
                if GOOD[function](paper):
                    self.assertIs(function(*handed), getattr(plain, function.__name__)(*handed))
                else:
                    self.refuses("NoPaper", function, *handed)
                    self.refuses("NoWorld", function, None, *handed[1:])

    def test_held_and_not_held(self):
        for place in [("di", "wet"), ("di", "ice"), ("zo", "zo")]:
            self.refuses("NotHeld", why, RINGS, place)
        for place in RINGS_LEAST:
            self.refuses("Held", why_not, RINGS, place)
        self.refuses("NotHeld", why, EMPTY, WET)
