"""Names, places, rules and worlds (points 2, 5 and 6)."""

from leanfar.worlds import is_name, is_place, is_rule, is_world, named
from tests import plain
from tests.asking import ODD, Asking, changed, deep_list, list_in_itself
from tests.samples import EMPTY, PLAIN, RINGS, letters_of, long_chain, made_worlds, world_at_limits

WET = ("an", "wet")
EIGHT = [("an", letter) for letter in "abcdefgh"]
RULE = ("an", "wet", 1, [("bo", "wet")])


class Forms(Asking):
    """What is a name, a place, a rule, a world."""

    def test_names(self):
        for good in ["a", "z", "an", "saying", "abcdefgh", "zzzzzzzz"]:
            self.tells(True, is_name, good)
        for bad in ["", "abcdefghi", "An", "aN", "a1", "a b", " an", "an ", "an\n", "a.b", "a-b", "a_b", "`", "{"]:
            self.tells(False, is_name, bad)
        for sign in ["\u00e9", "\u00df", "\u03b1", "\u0131", "\u00aa", "\uff41", "\ud800", "\x00"]:
            self.tells(False, is_name, sign)
        for other in [b"an", ["a", "n"], ("a",), {"an": 1}, 1, None, True]:
            self.tells(False, is_name, other)

    def test_places(self):
        for good in [WET, ("a", "a"), ("abcdefgh", "abcdefgh")]:
            self.tells(True, is_place, good)
        for bad in [["an", "wet"], ("an",), (), ("an", "wet", "wet"), ("an", ""), ("", "wet"), ("an", "abcdefghi"),
                    ("abcdefghi", "wet"), ("an", 1), (None, "wet"), (True, False), "an", "ab", ("an", WET), b"ab"]:
            self.tells(False, is_place, bad)

    def test_rules(self):
        for cost in [1, 2, 10**20 - 1, 10**30]:
            self.tells(True, is_rule, ("an", "wet", cost, [WET]))
        for cost in [0, -1, -10**30, True, False, None, "1", [1], (1,)]:
            self.tells(False, is_rule, ("an", "wet", cost, [WET]))
        for count in range(1, 9):
            self.tells(True, is_rule, ("an", "wet", 1, EIGHT[:count]))
        for premises in [[], EIGHT + [("an", "i")], [WET, WET], EIGHT[:7] + [EIGHT[0]], (WET,), WET, None, "an", {WET: 0}]:
            self.tells(False, is_rule, ("an", "wet", 1, premises))
        for bad in [["an", "wet", 1, [WET]], ("an", "wet", 1), ("an", "wet", 1, [WET], 0), (), ("", "wet", 1, [WET]),
                    ("an", "Wet", 1, [WET]), (WET, 1, [WET]), (1, "wet", 1, [WET])]:
            self.tells(False, is_rule, bad)

    def test_worlds(self):
        for good in [EMPTY, RINGS, ([WET], [], []), ([], [RULE, RULE], []), ([], [], [("an", "bo"), ("an", "cy")])]:
            self.tells(True, is_world, good)
        bad_vouched = [[WET, WET], (WET,), [["an", "wet"]], {WET: 0}, WET, None]
        for vouched in bad_vouched:
            self.tells(False, is_world, (vouched, [], []))
        for rules in [(RULE,), RULE, [list(RULE)], [RULE, None], [("an", "wet", True, [WET])], {0: RULE}, None]:
            self.tells(False, is_world, ([], rules, []))
        for roads in [[("bo", "an")], [("an", "an")], [("an", "bo"), ("an", "bo")], [["an", "bo"]], (("an", "bo"),),
                      [("an", "bo", "cy")], [("an", "")], [("an",)], ["ab"], None, {("an", "bo"): 0}]:
            self.tells(False, is_world, ([], [], roads))
        for other in [[[], [], []], ([], []), ([], [], [], []), (), ((), (), ())]:
            self.tells(False, is_world, other)

    def test_roads_go_by_the_order_of_names(self):
        for lesser, greater in [("a", "aa"), ("az", "b"), ("abcdefgh", "abcdefgi")]:
            self.tells(True, is_world, ([], [], [(lesser, greater)]))
            self.tells(False, is_world, ([], [], [(greater, lesser)]))

    def test_truths_are_told_of_anything(self):
        goods = ["an", WET, RULE, PLAIN, ([WET], [RULE], [("an", "bo")])]
        for function in [is_name, is_place, is_rule, is_world]:
            for good in goods:
                for thing in changed(good):
                    self.assertIs(function(thing), getattr(plain, function.__name__)(thing))

    def test_truths_are_told_of_any_size_and_depth(self):
        for function in [is_name, is_place, is_rule, is_world]:
            for thing in [deep_list(200000), list_in_itself(), "a" * 10**6, [WET] * 10**6, (WET,) * 10**6]:
                self.assertIs(function(thing), False)
        # The lesser name first: they may stand for roads as well.
        places = [("a", letters_of(number)) for number in range(50000)]
        self.assertIs(is_rule(("an", "wet", 1, places)), False)
        self.assertIs(is_rule(("an", "wet", 10**5000, [WET])), True)
        self.assertIs(is_world((places, [RULE] * 50000, places)), True)
        self.assertIs(is_world((places, [RULE] * 50000, places + places[:1])), False)
        self.assertIs(is_world((places + places[-1:], [], [])), False)
        self.assertIs(is_world(long_chain(50000)), True)

    def test_a_world_at_the_limits(self):
        vouched, rules, roads = world_at_limits()
        self.assertEqual((len(vouched), len(rules), len(roads)), (100, 300, 100))
        self.tells(True, is_world, (vouched, rules, roads))


class Named(Asking):
    """The places that a world names."""

    def test_of_the_empty_world(self):
        self.tells([], named, EMPTY)
        self.tells([], named, ([], [], [("an", "bo")]))

    def test_vouched_leaning_and_premises(self):
        self.tells([WET], named, ([WET], [], []))
        self.tells([WET, ("bo", "wet")], named, ([], [RULE], []))
        self.tells([("an", "ice"), WET, ("bo", "wet")], named, ([("an", "ice")], [RULE, RULE], [("an", "bo")]))

    def test_each_once_and_in_order(self):
        rules = [("bo", "b", 1, [("b", "b"), ("bo", "a")]), ("a", "z", 1, [("b", "b"), ("ab", "a")])]
        expected = [("a", "z"), ("ab", "a"), ("b", "b"), ("bo", "a"), ("bo", "b"), ("zo", "a")]
        self.tells(expected, named, ([("zo", "a"), ("bo", "a")], rules, []))

    def test_of_many_worlds(self):
        for world in made_worlds(200) + [world_at_limits()]:
            self.tells(plain.named(world), named, world)

    def test_refused(self):
        for thing in changed(PLAIN):
            if not plain.is_world(thing):
                self.refuses("NoWorld", named, thing)
        for thing in ODD:
            self.refuses("NoWorld", named, thing)
