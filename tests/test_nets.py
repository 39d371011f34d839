"""Nets, by rows of deeds written by hand (points 2, 3 and 21 to 24)."""

from unittest import mock

from leanfar.nets import Net
from tests import plain
from tests.asking import ODD, Asking, changed, deep_list, list_in_itself, lists_in, same
from tests.netting import DEEDS, NetPair, outcome, questions, same_views, view
from tests.samples import letters_of

CHAIN = """
    come bo; come cy; come an; join bo an; join bo cy
    vouch an rain; lean bo wet 1 an.rain; lean cy cold 2 bo.wet; rest
"""


def place(text):
    return tuple(text.split("."))


def places(text):
    return [place(word) for word in text.split()]


class Playing(Asking):
    """Tests that drive a net beside its plain second writing by rows of words."""

    sayings = ["cold", "dry", "mud", "rain", "wet"]

    def start(self, rows=""):
        self.pair = NetPair(self.sayings)
        self.play(rows)
        return self.pair.net

    def play(self, rows):
        """Do rows of deeds, parted by ; or line ends: what the last one told."""
        told = None
        for row in rows.replace("\n", ";").split(";"):
            words = row.split()
            if words and words[0] == "lean":
                _, hand, saying, cost, *premises = words
                told = self.pair.do("lean", hand, saying, list(map(place, premises)), cost=int(cost))
            elif words:
                told = self.pair.do(*[int(word) if word.isdigit() else word for word in words])
        self.pair.check()
        return told

    def does(self, expected, rows):
        self.assertTrue(same(self.play(rows), expected), rows)


class Coming(Playing):
    """Hands that come, and roads."""

    def test_an_empty_net(self):
        net = self.start()
        for what in ["hands", "roads", "open_places"]:
            self.tells([], getattr(net, what))
        self.tells(([], [], []), net.world)
        self.tells({}, net.heights)
        self.tells(0, net.lying)
        self.tells(None, net.ring)
        self.does(0, "rest")

    def test_hands_in_order(self):
        net = self.start("come cy; come an; come abcdefgh; come bo")
        self.tells(["abcdefgh", "an", "bo", "cy"], net.hands)
        self.does("Twice", "come an")
        self.does("NoName", "come abcdefghi")
        self.tells(["abcdefgh", "an", "bo", "cy"], net.hands)

    def test_deeds_tell_none_but_lean_and_rest(self):
        two = "come an; come bo; join an bo; vouch an rain"
        for ahead, row in [("", "come an"), ("come an; come bo", "join an bo"), ("come an", "vouch an rain"),
                           (two, "withdraw an rain"), (two, "step an bo"), (two, "part an bo")]:
            self.start(ahead)
            self.does(None, row)
        self.start("come an")
        self.does(0, "lean an wet 1 an.rain")
        self.does(1, "lean an wet 1 an.rain")
        self.does(None, "drop an 0")
        self.does(2, "lean an wet 1 an.rain")

    def test_cost_left_out_is_one(self):
        net = Net()
        net.come("an")
        self.assertEqual(net.lean("an", "wet", [("an", "rain")]), 0)
        self.assertEqual(net.lean(premises=[("an", "wet")], saying="dry", hand="an"), 1)
        self.assertEqual(net.lean("an", "mud", [("an", "rain")], cost=4), 2)
        self.assertEqual([rule[2] for rule in net.world()[1]], [1, 1, 4])
        self.assertEqual([row[0][2] for row in net.log("an")], [1, 1, 4])
        with self.assertRaises(TypeError):
            net.lean("an", "mud", [("an", "rain")], 4)

    def test_roads_the_lesser_name_first(self):
        net = self.start("come an; come bo; come cy; come ab; join cy an; join bo an; join ab an; join cy bo")
        self.tells([("ab", "an"), ("an", "bo"), ("an", "cy"), ("bo", "cy")], net.roads)
        for row in ["join an cy", "join cy an"]:
            self.does("Twice", row)
        self.does("NoRoad", "part ab cy")
        self.play("part cy an; part an ab")
        self.tells([("an", "bo"), ("bo", "cy")], net.roads)
        for row in ["part an cy", "part cy an"]:
            self.does("NoRoad", row)

    def test_of_one_hand_alone(self):
        net = self.start("come an; vouch an rain")
        for row in ["join an an", "part an an", "join an zo", "join zo an", "part an zo", "part zo zo", "join zo zo"]:
            self.does("NoHand", row)
        self.does("Empty", "step an an")
        self.does("NoHand", "step zo zo")
        self.tells([], net.lane, "an", "an")
        self.tells([("rain", 0)], net.heard_of, "an", "an")
        self.refuses("NoRoad", net.heard_of, "an", "zo")

    def test_join_tells_what_is_settled_both_ways(self):
        net = self.start("come an; come bo; vouch an rain; vouch an dry; lean bo wet 3 bo.mud; vouch bo mud")
        self.play("join bo an")
        self.tells([("holds", "dry", 0), ("holds", "rain", 0)], net.lane, "an", "bo")
        self.tells([("holds", "mud", 0), ("holds", "wet", 3)], net.lane, "bo", "an")
        self.tells(4, net.lying)
        self.does(4, "rest")
        self.tells([("mud", 0), ("wet", 3)], net.heard_of, "an", "bo")
        self.tells([("dry", 0), ("rain", 0)], net.heard_of, "bo", "an")

    def test_join_while_letters_lie_and_sayings_are_open(self):
        net = self.start(CHAIN + "withdraw an rain; step an bo; come di; join di bo")
        self.tells([("open", "wet")], net.lane, "bo", "an")
        self.tells([("open", "wet")], net.lane, "bo", "cy")
        self.tells([], net.lane, "bo", "di")
        # di was no neighbour as wet was given up: no answer of it is awaited.
        self.tells(["an", "cy"], net.awaited, "bo", "wet")
        self.play("vouch bo wet; rest")
        self.tells([("wet", 0)], net.heard_of, "di", "bo")
        self.play("join cy an; vouch cy mud; join di cy; vouch an rain; join an di; rest")
        self.tells({place("an.rain"): 0, place("bo.wet"): 0, place("cy.mud"): 0, place("cy.cold"): 2}, net.heights)

    def test_both_do_it_the_lesser_first(self):
        for names in ["an bo", "bo an"]:
            net = self.start(f"come an; come bo; come cy; come di; join an cy; join bo di; join {names}")
            self.tells([(("join", "cy"), []), (("join", "bo"), [])], net.log, "an")
            self.tells([(("join", "di"), []), (("join", "an"), [])], net.log, "bo")
            self.play("vouch bo rain; vouch cy dry; lean an wet 1 bo.rain; lean bo wet 1 an.wet an.cold; rest")
            self.play(f"lean an cold 1 cy.dry; rest; vouch an mud; part {names}")
            # The letters of both go on the roads that are left.
            self.tells([("holds", "mud", 0), ("open", "wet")], net.lane, "an", "cy")
            self.tells([("open", "wet")], net.lane, "bo", "di")
            self.tells([], net.lane, "an", "bo")
            self.tells(3, net.lying)


class Lanes(Playing):
    """Letters that lie, and steps."""

    def test_letters_lie_in_the_order_in_which_they_went(self):
        net = self.start("come an; come bo; join an bo; vouch an rain; vouch an dry; withdraw an rain; vouch bo mud")
        self.tells([("holds", "rain", 0), ("holds", "dry", 0), ("open", "rain")], net.lane, "an", "bo")
        self.tells([("holds", "mud", 0)], net.lane, "bo", "an")
        self.tells(4, net.lying)
        self.play("step an bo")
        self.tells([("holds", "dry", 0), ("open", "rain")], net.lane, "an", "bo")
        self.tells([("rain", 0)], net.heard_of, "bo", "an")
        self.tells(3, net.lying)
        self.play("step bo an; step an bo; step an bo")
        self.tells([("heard", "rain")], net.lane, "bo", "an")
        self.does("Empty", "step an bo")
        self.does(None, "step bo an")
        self.does("Empty", "step bo an")
        self.tells(0, net.lying)

    def test_no_road(self):
        net = self.start("come an; come bo; vouch an rain")
        self.tells([], net.lane, "an", "bo")
        self.does("Empty", "step an bo")
        for row in ["step an zo", "step zo an"]:
            self.does("NoHand", row)
        self.refuses("NoHand", net.lane, "an", "zo")
        self.refuses("NoHand", net.lane, "zo", "an")
        self.refuses("NoRoad", net.heard_of, "an", "bo")

    def test_rest_where_none_lies(self):
        self.start("come an; come bo; join an bo")
        self.does(0, "rest")
        self.play("vouch an rain")
        self.does(1, "rest")
        self.does(0, "rest")

    def test_rest_from_the_least_name_to_the_least(self):
        # What is heard is seen of each hand's log, and the order of two hands by what they tell then.
        net = self.start("""
            come an; come bo; come cy; come di; join an di; join bo di; join cy di; join an bo; join bo cy
            vouch cy rain; vouch bo rain; vouch an rain; lean bo wet 1 cy.rain; lean an wet 1 bo.wet
        """)
        self.does(12, "rest")
        heard = [(what[1], what[2][1]) for what, _ in net.log("di") if what[0] == "hear"]
        # cy told its rain first of all, but first to bo, whose wet then lets an settle: both go ahead of cy to di.
        self.assertEqual(heard, [("an", "rain"), ("bo", "rain"), ("an", "wet"), ("bo", "wet"), ("cy", "rain")])
        heard = [(what[1], what[2][1]) for what, _ in net.log("bo") if what[0] == "hear"]
        self.assertEqual(heard, [("an", "rain"), ("cy", "rain"), ("an", "wet")])

    def test_parted_while_letters_lie(self):
        net = self.start(CHAIN + "withdraw an rain; vouch an dry; step an bo; step bo cy")
        self.tells([("holds", "dry", 0)], net.lane, "an", "bo")
        self.tells([("open", "wet")], net.lane, "bo", "an")
        self.tells([("open", "cold")], net.lane, "cy", "bo")
        self.tells(3, net.lying)
        self.play("part bo an")
        self.tells(1, net.lying)
        for hand, other in ["an bo".split(), "bo an".split()]:
            self.tells([], net.lane, hand, other)
            self.does("Empty", f"step {hand} {other}")
            self.refuses("NoRoad", net.heard_of, hand, other)
        self.tells([("open", "cold")], net.lane, "cy", "bo")

    def test_parted_while_answers_are_awaited_or_owed(self):
        net = self.start(CHAIN + "withdraw an rain; step an bo; step bo cy")
        self.tells([("an", "rain", ["wet"])], net.owed, "bo")
        self.tells([("bo", "wet", ["cold"])], net.owed, "cy")
        self.tells(["bo"], net.awaited, "an", "rain")
        self.tells(["an", "cy"], net.awaited, "bo", "wet")
        self.play("part an bo")
        self.tells([place("bo.wet"), place("cy.cold")], net.open_places)
        self.tells([], net.awaited, "an", "rain")
        self.tells(["cy"], net.awaited, "bo", "wet")
        self.tells([], net.owed, "bo")
        self.tells(None, net.cause, "bo", "wet")
        self.tells(place("bo.wet"), net.cause, "cy", "cold")
        self.play("part cy bo")
        self.tells([], net.open_places)
        self.tells(0, net.lying)

    def test_joined_anew_behind_a_part(self):
        net = self.start(CHAIN + "withdraw an rain; step an bo; part an bo; join bo an")
        self.tells([], net.lane, "an", "bo")
        self.tells([], net.lane, "bo", "an")
        self.tells([], net.heard_of, "bo", "an")
        self.tells(["cy"], net.awaited, "bo", "wet")
        self.play("vouch an rain")
        self.tells([("holds", "rain", 0)], net.lane, "an", "bo")
        # wet is open still, and settles only when cy has answered.
        self.play("step an bo")
        self.tells(None, net.height, "bo", "wet")
        self.play("rest")
        self.tells({place("an.rain"): 0, place("bo.wet"): 1, place("cy.cold"): 3}, net.heights)

    def test_part_and_join_while_a_saying_stays_open(self):
        net = self.start("""
            come an; come bo; come cy; join an bo; join an cy; vouch an rain; rest
            withdraw an rain; part an bo; join an bo; vouch an rain
        """)
        self.tells(["cy"], net.awaited, "an", "rain")
        self.tells([], net.lane, "an", "bo")
        self.play("step an cy; step cy an")
        self.tells([("holds", "rain", 0)], net.lane, "an", "bo")
        self.does(2, "rest")


class Telling(Playing):
    """What a net tells of its world and places."""

    def test_the_world(self):
        net = self.start("""
            come cy; come bo; come an; join cy bo
            vouch cy rain; vouch an wet; vouch an dry; vouch bo mud
            lean cy wet 2 cy.rain; lean an mud 1 an.wet an.dry; lean bo wet 3 cy.rain bo.mud
            lean an mud 4 bo.mud; lean an cold 1 zo.cold
        """)
        vouched = places("an.dry an.wet bo.mud cy.rain")
        rules = [
            ("an", "mud", 1, places("an.wet an.dry")), ("an", "mud", 4, places("bo.mud")),
            ("an", "cold", 1, places("zo.cold")), ("bo", "wet", 3, places("cy.rain bo.mud")),
            ("cy", "wet", 2, places("cy.rain")),
        ]
        self.tells((vouched, rules, [("bo", "cy")]), net.world)
        self.play("withdraw an wet; drop an 0; drop bo 0")
        expected = (places("an.dry bo.mud cy.rain"), [rules[1], rules[2], rules[4]], [("bo", "cy")])
        self.tells(expected, net.world)

    def test_heights_and_open_places(self):
        net = self.start(CHAIN)
        self.tells({place("an.rain"): 0, place("bo.wet"): 1, place("cy.cold"): 3}, net.heights)
        self.play("withdraw an rain; step an bo")
        self.tells({place("cy.cold"): 3}, net.heights)
        self.tells(places("an.rain bo.wet"), net.open_places)
        self.play("step bo cy")
        self.tells({}, net.heights)
        self.tells(places("an.rain bo.wet cy.cold"), net.open_places)

    def test_leans_on(self):
        net = self.start("""
            come an; come bo; join an bo; vouch an rain; vouch an dry
            lean an wet 4 an.rain; lean an wet 1 an.rain an.dry; lean an mud 1 bo.cold; lean an rain 1 an.dry; rest
        """)
        self.tells(places("an.rain an.dry"), net.leans_on, place("an.wet"))
        # Vouched, and by a rule as well; not settled; a saying that nobody has.
        for text in ["an.rain", "an.dry", "an.mud", "bo.cold", "an.zzz"]:
            self.tells([], net.leans_on, place(text))
        self.play("drop an 1")
        # Given up first, as it must rise.
        self.tells([], net.leans_on, place("an.wet"))
        self.play("rest")
        self.tells(places("an.rain"), net.leans_on, place("an.wet"))
        self.play("withdraw an rain; step an bo")
        self.tells([], net.leans_on, place("an.rain"))
        self.refuses("NoHand", net.leans_on, ("zo", "wet"))

    def test_the_ring_is_looked_for_in_what_places_lean_on(self):
        net = self.start("""
            come an; come bo; join an bo; vouch an rain; lean bo wet 1 an.rain; lean an wet 1 bo.wet an.rain
            lean an mud 1 an.cold; lean bo wet 5 an.wet; rest
        """)
        self.tells(None, net.ring)
        expected = {place("an.rain"): [], place("an.wet"): places("bo.wet an.rain"), place("bo.wet"): places("an.rain")}
        for told in [None, places("an.wet bo.wet")]:
            # No row of deeds leads to a ring, so the looking is looked at.
            with mock.patch("leanfar.nets.least_ring", return_value=told) as least_ring:
                self.assertEqual(net.ring(), told)
            self.assertEqual(least_ring.call_args.args, (expected,))

    def test_why_with_the_numbers_of_the_world(self):
        net = self.start("""
            come cy; come bo; come an; join an bo; join bo cy; vouch an rain; vouch an dry
            lean an mud 1 an.rain; lean an mud 1 an.dry; lean an cold 1 an.rain; drop an 0
            lean bo wet 5 an.rain; lean bo wet 2 an.mud; lean bo dry 1 an.rain; drop bo 0
            lean cy wet 1 bo.wet bo.dry; rest
        """)
        self.tells([(place("an.dry"), -1), (place("an.mud"), 0)], net.why, place("an.mud"))
        self.tells([(place("an.rain"), -1), (place("an.cold"), 1)], net.why, place("an.cold"))
        paper = [("an.dry", -1), ("an.rain", -1), ("an.mud", 0), ("bo.dry", 3), ("bo.wet", 2), ("cy.wet", 4)]
        self.tells([(place(text), number) for text, number in paper], net.why, place("cy.wet"))
        # The hands' own numbers are others.
        self.assertEqual([net.reason(*place(text)) for text, _ in paper], [-1, -1, 1, 2, 1, 0])
        self.tells([(place("an.rain"), -1)], net.why, place("an.rain"))

    def test_why_is_told_at_rest_only(self):
        net = self.start(CHAIN + "vouch an dry")
        for thing in [place("cy.cold"), ("zo", "wet"), place("an.cold"), None, [], "an.rain"]:
            self.refuses("Busy", net.why, thing)
        self.play("rest")
        for thing, name in [(("zo", "wet"), "NoHand"), (place("an.cold"), "NotHeld"), ("an.rain", "NoPlace")]:
            self.refuses(name, net.why, thing)
        self.tells([(place("an.dry"), -1)], net.why, place("an.dry"))

    def test_blame(self):
        net = self.start(CHAIN + "lean an mud 1 an.rain; rest; withdraw an rain")
        self.tells(places("an.rain"), net.blame, place("an.rain"))
        self.tells(places("an.mud an.rain"), net.blame, place("an.mud"))
        self.refuses("NotOpen", net.blame, place("bo.wet"))
        self.play("step an bo; step bo cy")
        self.tells(places("bo.wet an.rain"), net.blame, place("bo.wet"))
        self.tells(places("cy.cold bo.wet an.rain"), net.blame, place("cy.cold"))
        self.play("part bo an")
        self.tells(places("cy.cold bo.wet"), net.blame, place("cy.cold"))
        self.tells(places("bo.wet"), net.blame, place("bo.wet"))
        for text in ["an.mud", "an.rain", "an.zzz"]:
            self.refuses("NotOpen", net.blame, place(text))
        self.refuses("NoHand", net.blame, ("zo", "wet"))

    def test_blame_of_what_a_part_gave_up(self):
        net = self.start(CHAIN + "part an bo")
        self.tells(places("bo.wet"), net.blame, place("bo.wet"))
        self.play("step bo cy")
        self.tells(places("cy.cold bo.wet"), net.blame, place("cy.cold"))

    def waits(self, texts, lane):
        found = places(texts)
        self.tells((found, tuple(lane.split())), self.pair.net.waits_for, found[0])

    def test_what_is_waited_for(self):
        net = self.start(CHAIN)
        for text in ["an.rain", "an.wet"]:
            self.refuses("NotOpen", net.waits_for, place(text))
        self.play("withdraw an rain")
        self.waits("an.rain", "an bo")
        self.play("step an bo")
        self.waits("an.rain bo.wet", "bo an")
        self.waits("bo.wet", "bo an")
        self.play("step bo an")
        # The answer lies.
        self.waits("an.rain bo.wet", "an bo")
        self.play("step an bo")
        self.waits("an.rain bo.wet", "bo cy")
        self.play("step bo cy")
        self.waits("an.rain bo.wet cy.cold", "cy bo")
        self.play("step cy bo")
        self.waits("bo.wet cy.cold", "bo cy")
        self.play("step bo cy")
        self.waits("an.rain bo.wet", "cy bo")
        self.play("step cy bo")
        self.waits("an.rain", "bo an")
        self.play("step bo an")
        self.refuses("NotOpen", net.waits_for, place("an.rain"))
        self.refuses("NoHand", net.waits_for, ("zo", "wet"))

    def test_what_is_owed_for_several(self):
        self.start("""
            come an; come bo; come cy; join an bo; join bo cy; vouch an rain
            lean bo wet 1 an.rain; lean bo mud 1 an.rain; lean bo cold 1 an.rain; rest; withdraw an rain; step an bo
        """)
        self.waits("an.rain bo.cold", "bo an")
        self.play("step bo an; step an bo; step bo cy; step cy bo")
        # cold has closed, and the two others have not.
        self.waits("an.rain bo.mud", "bo an")

    def test_what_waits_on_itself(self):
        net = self.start("""
            come an; come bo; join an bo; vouch an rain; lean an mud 1 an.rain; lean an cold 1 an.mud; rest
            withdraw an rain
        """)
        self.tells(["an", "bo"], net.awaited, "an", "rain")
        self.waits("an.rain an.mud an.cold", "an bo")
        self.waits("an.mud an.cold", "an bo")
        self.play("step an bo; step an bo; step an bo; step bo an; step bo an")
        self.tells(["an"], net.awaited, "an", "rain")
        self.waits("an.rain an.mud an.cold", "bo an")

    def test_another_letter_of_the_same_saying_is_not_waited_for(self):
        self.start("""
            come an; come bo; join an bo; vouch an rain; vouch bo rain; rest
            withdraw bo rain; withdraw an rain
        """)
        self.waits("an.rain", "an bo")
        self.waits("bo.rain", "bo an")
        self.play("step an bo")
        self.tells([("open", "rain"), ("heard", "rain")], self.pair.net.lane, "bo", "an")
        self.waits("an.rain", "bo an")
        self.waits("bo.rain", "bo an")

    def test_what_a_hand_tells(self):
        net = self.start(CHAIN + "withdraw an rain; step an bo")
        self.tells(None, net.height, "bo", "wet")
        self.tells(3, net.height, "cy", "cold")
        self.tells(0, net.reason, "cy", "cold")
        self.tells(None, net.reason, "an", "rain")
        self.tells(["an", "cy"], net.awaited, "bo", "wet")
        self.tells(("an", "rain"), net.cause, "bo", "wet")
        self.tells([("an", "rain", ["wet"])], net.owed, "bo")
        self.tells([("wet", 1, None), ("wet", None, ("an", "rain"))], net.turns, "bo")
        self.tells([("wet", 1)], net.heard_of, "cy", "bo")
        self.tells([("cold", 3)], net.heard_of, "cy", "cy")
        for what in ["height", "reason", "awaited", "cause"]:
            self.refuses("NoHand", getattr(net, what), "zo", "wet")
            self.refuses("NoName", getattr(net, what), "an", "Wet")

    def test_logs(self):
        net = self.start(CHAIN + "withdraw an rain; step an bo; drop bo 0; part bo cy")
        expected = [
            (("join", "an"), []), (("join", "cy"), []), (("lean", "wet", 1, [("an", "rain")]), []),
            (("hear", "an", ("holds", "rain", 0)), [("an", ("holds", "wet", 1)), ("cy", ("holds", "wet", 1))]),
            (("hear", "cy", ("holds", "cold", 3)), []),
            (("hear", "an", ("open", "rain")), [("an", ("open", "wet")), ("cy", ("open", "wet"))]),
            (("drop", 0), []), (("part", "cy"), []),
        ]
        self.tells(expected, net.log, "bo")
        self.tells([(("join", "bo"), []), (("vouch", "rain"), [("bo", ("holds", "rain", 0))]),
                    (("hear", "bo", ("holds", "wet", 1)), []), (("withdraw", "rain"), [("bo", ("open", "rain"))])],
                   net.log, "an")
        self.play("come di")
        self.tells([], net.log, "di")
        self.refuses("NoHand", net.log, "zo")


class Refusals(Playing):
    """What is refused, and that it changes nothing."""

    sayings = ["cold", "rain", "wet"]

    def ready(self):
        """A net in the midst of everything."""
        net = self.start(CHAIN + """
            come di; lean an wet 1 an.rain; vouch cy wet; lean di wet 1 cy.wet; rest
            vouch bo rain; withdraw an rain; step an bo; step bo cy
        """)
        self.assertGreater(net.lying(), 2)
        self.assertGreater(len(net.open_places()), 2)
        self.before = self.now()
        return net

    def now(self):
        return view(self.pair.net, ["an", "bo", "cy", "di", "zo"], self.sayings)

    def unchanged(self):
        self.assertIsNone(same_views(self.now(), self.before))

    def good(self):
        """Arguments of each method that refuses, which fit but for the state of the net."""
        premises = [("an", "rain"), ("bo", "wet")]
        good = {
            "come": ("ed",), "join": ("an", "cy"), "part": ("an", "bo"), "vouch": ("an", "cold"),
            "withdraw": ("bo", "rain"), "drop": ("bo", 0), "step": ("bo", "an"), "lean": ("bo", "cold", premises),
            "lane": ("an", "bo"), "leans_on": (("an", "wet"),), "why": (("an", "wet"),), "blame": (("an", "wet"),),
            "waits_for": (("an", "wet"),), "log": ("an",), "height": ("an", "wet"), "reason": ("an", "wet"),
            "awaited": ("an", "wet"), "cause": ("an", "wet"), "owed": ("an",), "turns": ("an",),
            "heard_of": ("an", "bo"),
        }
        self.assertEqual(set(good), {row[0] for row in questions(["an"], ["wet"]) if len(row) > 1} | set(DEEDS) - {"rest"})
        return good

    def test_each_argument_otherwise(self):
        net = self.ready()
        plain_net = self.pair.plain
        refused = set()
        for what, rest in self.good().items():
            for at, part in enumerate(rest):
                for thing in changed(part):
                    handed = rest[:at] + (thing,) + rest[at + 1:]
                    expected = outcome(plain_net, what, *handed) if self.is_refused(what, handed) else None
                    if expected is None:
                        continue
                    self.refuses(expected, getattr(net, what), *handed)
                    refused.add((what, expected))
        self.unchanged()
        self.assertGreaterEqual(refused, {
            ("come", "NoName"), ("join", "NoHand"), ("part", "NoHand"), ("vouch", "NoHand"),
            ("vouch", "NoName"), ("withdraw", "NotVouched"), ("drop", "NoRule"), ("step", "NoHand"), ("lean", "NoRule"),
            ("lean", "NoHand"), ("lane", "NoHand"), ("leans_on", "NoPlace"), ("leans_on", "NoHand"), ("why", "Busy"),
            ("blame", "NoPlace"), ("blame", "NoHand"), ("blame", "NotOpen"), ("waits_for", "NoPlace"),
            ("waits_for", "NoHand"), ("waits_for", "NotOpen"), ("log", "NoHand"), ("height", "NoHand"),
            ("height", "NoName"), ("reason", "NoName"), ("awaited", "NoName"), ("cause", "NoName"),
            ("owed", "NoHand"), ("turns", "NoHand"), ("heard_of", "NoHand"), ("heard_of", "NoRoad"),
        })

    def is_refused(self, what, handed):
        """Whether the plain writing refuses it, asked without doing anything."""
        names, hands = plain.is_name, self.pair.plain.by_name
        if what == "come":
            return not names(handed[0]) or handed[0] in hands
        if what == "vouch":
            return not self.is_hand(handed[0]) or not names(handed[1]) or handed[1] in hands[handed[0]].vouched
        if what == "withdraw":
            return not self.is_hand(handed[0]) or not names(handed[1]) or handed[1] not in hands[handed[0]].vouched
        if what == "drop":
            return not self.is_hand(handed[0]) or type(handed[1]) is not int or handed[1] != 0
        if what == "lean":
            return not self.is_hand(handed[0]) or not plain.is_rule((handed[0], handed[1], 1, handed[2]))
        if what in ("join", "part", "step"):
            return not self.is_hand(handed[0]) or not self.is_hand(handed[1])
        return type(outcome(self.pair.plain, what, *handed)) is str

    def is_hand(self, thing):
        return plain.is_name(thing) and thing in self.pair.plain.by_name

    def test_which_refusal_goes_first(self):
        net = self.ready()
        for what, rest, name in [
            ("join", (None, "an"), "NoHand"), ("join", ("an", "an"), "NoHand"), ("join", ("bo", "an"), "Twice"),
            ("part", ("zo", "zo"), "NoHand"), ("part", ("an", "cy"), "NoRoad"), ("vouch", ("zo", None), "NoHand"),
            ("vouch", (None, None), "NoHand"), ("vouch", ("bo", "rain"), "Twice"), ("withdraw", ("zo", None), "NoHand"),
            ("withdraw", ("an", "rain"), "NotVouched"), ("withdraw", ("an", "Rain"), "NotVouched"),
            ("lean", ("zo", "", []), "NoHand"), ("lean", ("an", "", []), "NoRule"), ("drop", ("zo", None), "NoHand"),
            ("drop", ("an", 1), "NoRule"), ("drop", ("an", -1), "NoRule"), ("drop", ("an", False), "NoRule"),
            ("step", ("zo", None), "NoHand"), ("step", ("an", "cy"), "Empty"), ("step", ("an", "an"), "Empty"),
            ("step", ("an", "di"), "Empty"), ("why", (None,), "Busy"), ("why", (("zo", "wet"),), "Busy"),
            ("leans_on", (("zo", "Wet"),), "NoPlace"), ("blame", (("zo", "Wet"),), "NoPlace"),
            ("waits_for", (["an", "wet"],), "NoPlace"), ("height", ("zo", None), "NoHand"),
            ("reason", ("zo", ""), "NoHand"), ("awaited", (1, 1), "NoHand"), ("cause", ([], []), "NoHand"),
            ("heard_of", ("zo", None), "NoHand"), ("heard_of", ("an", None), "NoRoad"), ("heard_of", ("an", "zo"), "NoRoad"),
            ("come", ("an",), "Twice"), ("come", (True,), "NoName"), ("lane", ("an", True), "NoHand"),
        ]:
            self.refuses(name, getattr(net, what), *rest)
        for cost in [0, True, None, -1, "1", [1]]:
            self.assertEqual(outcome(net, "lean", "zo", "wet", [("an", "rain")], cost=cost), "NoHand")
            self.assertEqual(outcome(net, "lean", "an", "wet", [("an", "rain")], cost=cost), "NoRule")
        self.unchanged()

    def test_two_wrong_arguments_at_once(self):
        net = self.ready()
        for what, rest in self.good().items():
            if len(rest) > 1:
                for thing in ODD:
                    handed = (thing, thing) + rest[2:]
                    self.refuses("NoHand", getattr(net, what), *handed)
                    if what in ("vouch", "height", "reason", "awaited", "cause") and not plain.is_name(thing):
                        self.refuses("NoName", getattr(net, what), "an", thing)
        self.unchanged()

    def test_things_of_any_size_and_depth(self):
        net = self.ready()
        great = [("an", letters_of(at)) for at in range(50000)]
        for thing in [deep_list(200000), list_in_itself(), "a" * 10**5, great, tuple(great)]:
            self.refuses("NoName", net.come, thing)
            self.refuses("NoHand", net.join, "an", thing)
            self.refuses("NoHand", net.step, thing, "an")
            self.refuses("NoRule", net.lean, "an", "wet", thing)
            self.refuses("NoPlace", net.blame, thing)
            self.refuses("Busy", net.why, thing)
        self.refuses("NoRule", net.drop, "an", 10**5000)
        self.unchanged()

    def test_behind_refusals_all_goes_on(self):
        net = self.ready()
        for what in ["join", "part", "vouch", "withdraw", "drop", "step", "lane", "heard_of"]:
            self.refuses("NoHand", getattr(net, what), None, None)
        self.play("rest")
        self.assertEqual(net.heights(), plain.least(net.world()))


class Own(Playing):
    """That all that is told is the asker's own, and all that is handed in stays its owner's."""

    def test_no_two_told_are_one(self):
        nets = []
        for _ in range(2):
            nets.append(self.start(CHAIN + "lean bo mud 1 an.rain; rest; withdraw an rain; step an bo; step bo cy"))
        asked = questions(["an", "bo", "cy"], ["rain", "wet"])
        told = [outcome(net, *row) for net in nets + nets for row in asked]
        lists = [id(one) for one in lists_in(told)[1:]]
        self.assertGreater(len(lists), 100)
        self.assertEqual(len(set(lists)), len(lists))

    def test_papers_are_the_askers_own(self):
        net = self.start(CHAIN)
        told = [net.why(place("cy.cold")) for _ in range(3)] + [net.leans_on(place("bo.wet")) for _ in range(3)]
        self.assertEqual(len({id(one) for one in told}), 6)

    def test_premises_are_kept_as_copies(self):
        net = Net()
        net.come("an")
        premises = [("an", "rain"), ("an", "dry")]
        net.lean("an", "wet", premises)
        premises.append(("an", "mud"))
        premises[0] = None
        kept = [("an", "rain"), ("an", "dry")]
        self.tells(([], [("an", "wet", 1, kept)], []), net.world)
        self.tells([(("lean", "wet", 1, kept), [])], net.log, "an")
        net.log("an")[0][0][3].clear()
        net.world()[1][0][3].clear()
        net.vouch("an", "rain")
        net.vouch("an", "dry")
        net.leans_on(("an", "wet")).clear()
        self.tells(kept, net.leans_on, ("an", "wet"))
        self.tells(([("an", "dry"), ("an", "rain")], [("an", "wet", 1, kept)], []), net.world)
        self.assertEqual(net.log("an")[0], (("lean", "wet", 1, kept), []))

    def test_what_is_done_to_told_things_changes_nothing(self):
        net = self.start(CHAIN + "withdraw an rain; step an bo")
        names = ["an", "bo", "cy"]
        first = view(net, names, self.sayings)
        self.assertIsNone(same_views(view(net, names, self.sayings), first))
        self.pair.check()
