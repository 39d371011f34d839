"""A hand, by rows of deeds and letters written by hand (points 2, 3 and 15 to 20)."""

from leanfar.hands import Hand
from tests import plain
from tests.asking import ODD, Asking, changed, deep_list, list_in_itself, same
from tests.driving import Pair, view
from tests.samples import letters_of


def holds(saying, height):
    return ("holds", saying, height)


def opened(saying):
    return ("open", saying)


def heard(saying):
    return ("heard", saying)


class Doing(Asking):
    """Tests that drive a hand together with its plain second writing."""

    def start(self, name="an", neighbours=(), sayings=("a", "b", "c", "d", "e")):
        self.pair = Pair(name, sayings)
        for neighbour in neighbours:
            self.pair.do("join", neighbour)
        return self.pair.hand

    def does(self, expected, what, *rest):
        told = self.pair.do(what, *rest)
        self.assertTrue(same(told, expected), f"{what} {rest} tells {told}, not {expected}")

    def hears(self, neighbour, letter, *expected):
        self.does(list(expected), "hear", neighbour, letter)


class Alone(Doing):
    """A hand without neighbours."""

    def test_a_new_hand_tells_nothing(self):
        hand = self.start("abcdefgh")
        self.assertEqual(hand.name(), "abcdefgh")
        for name in ["neighbours", "settled", "open_ones", "rules", "vouched", "owed", "turns"]:
            self.tells([], getattr(hand, name))
        self.tells([], hand.heard_of, "abcdefgh")
        for saying in ["a", "abcdefgh"]:
            self.tells(None, hand.height, saying)
            self.tells(None, hand.reason, saying)
            self.tells([], hand.awaited, saying)
            self.tells(None, hand.cause, saying)

    def test_vouched_and_withdrawn(self):
        hand = self.start()
        self.does([], "vouch", "b")
        self.does([], "vouch", "a")
        self.tells(["a", "b"], hand.vouched)
        self.tells([("a", 0), ("b", 0)], hand.settled)
        self.tells(0, hand.height, "a")
        self.tells(-1, hand.reason, "a")
        self.tells([("a", 0), ("b", 0)], hand.heard_of, "an")
        self.does([], "withdraw", "b")
        self.tells(["a"], hand.vouched)
        self.tells([("a", 0)], hand.settled)
        self.tells([("a", 0)], hand.heard_of, "an")
        self.tells([], hand.open_ones)
        self.tells([("b", 0, None), ("a", 0, None), ("b", None, None)], hand.turns)
        self.does([], "vouch", "b")
        self.tells([("a", 0), ("b", 0)], hand.settled)

    def test_leaning_on_its_own_sayings(self):
        hand = self.start()
        self.does((0, []), "lean", "b", [("an", "a")], 2)
        self.does((1, []), "lean", "c", [("an", "b"), ("an", "a")], 3)
        self.tells([], hand.settled)
        self.does([], "vouch", "a")
        self.tells([("a", 0), ("b", 2), ("c", 5)], hand.settled)
        self.tells([("a", 0, None), ("b", 2, None), ("c", 5, None)], hand.turns)
        self.tells([(0, "b", 2, [("an", "a")]), (1, "c", 3, [("an", "b"), ("an", "a")])], hand.rules)
        self.tells(0, hand.reason, "b")
        self.does([], "withdraw", "a")
        self.tells([], hand.settled)
        self.tells([], hand.open_ones)
        expected = [("a", None, None), ("b", None, ("an", "a")), ("c", None, ("an", "a"))]
        self.assertEqual(hand.turns()[3:], expected)

    def test_cost_left_out_is_one(self):
        hand = self.start()
        self.does((0, []), "lean", "b", [("an", "a")])
        self.tells([(0, "b", 1, [("an", "a")])], hand.rules)
        self.assertEqual(hand.lean(premises=[("an", "b")], saying="c"), (1, []))
        self.assertEqual(hand.lean("d", [("an", "b")], cost=7), (2, []))
        self.assertEqual(hand.rules()[1:], [(1, "c", 1, [("an", "b")]), (2, "d", 7, [("an", "b")])])
        with self.assertRaises(TypeError):
            hand.lean("d", [("an", "b")], 7)

    def test_a_ring_of_rules_does_not_hold_itself_up(self):
        hand = self.start()
        for saying, premise in [("a", "c"), ("b", "a"), ("c", "b")]:
            self.pair.do("lean", saying, [("an", premise)])
        self.tells([], hand.settled)
        for _ in range(3):
            for saying, heights in [("a", [0, 1, 2]), ("b", [2, 0, 1]), ("c", [1, 2, 0])]:
                self.does([], "vouch", saying)
                self.tells(list(zip("abc", heights)), hand.settled)
                self.does([], "withdraw", saying)
                self.tells([], hand.settled)
                self.tells([], hand.open_ones)
                self.tells([], hand.owed)
                self.tells([], hand.heard_of, "an")

    def test_a_saying_that_leans_on_itself(self):
        hand = self.start()
        self.does((0, []), "lean", "a", [("an", "a")])
        self.tells([], hand.settled)
        self.does([], "vouch", "a")
        self.tells([("a", 0)], hand.settled)
        self.does([], "withdraw", "a")
        self.tells([], hand.settled)
        self.tells([("a", 0, None), ("a", None, None)], hand.turns)

    def test_what_loses_one_of_two_rests_goes_up_by_being_given_up_first(self):
        hand = self.start()
        self.does([], "vouch", "a")
        self.does([], "vouch", "b")
        self.does((0, []), "lean", "c", [("an", "a")], 1)
        self.does((1, []), "lean", "c", [("an", "b")], 4)
        self.does((2, []), "lean", "d", [("an", "c")], 1)
        self.tells([("a", 0), ("b", 0), ("c", 1), ("d", 2)], hand.settled)
        self.does([], "withdraw", "a")
        self.tells([("b", 0), ("c", 4), ("d", 5)], hand.settled)
        expected = [
            ("a", None, None), ("c", None, ("an", "a")), ("d", None, ("an", "c")), ("c", 4, None), ("d", 5, None),
        ]
        self.assertEqual(hand.turns()[4:], expected)

    def test_vouched_and_leaning_as_well(self):
        hand = self.start()
        self.does([], "vouch", "a")
        self.does((0, []), "lean", "b", [("an", "a")], 3)
        self.does([], "vouch", "b")
        self.tells(0, hand.height, "b")
        self.tells(-1, hand.reason, "b")
        self.does([], "drop", 0)
        self.tells(0, hand.height, "b")
        self.does((1, []), "lean", "b", [("an", "a")], 2)
        self.tells(-1, hand.reason, "b")
        turns = hand.turns()
        self.does([], "withdraw", "b")
        self.assertEqual(hand.turns()[len(turns):], [("b", None, None), ("b", 2, None)])
        self.tells(1, hand.reason, "b")

    def test_numbers_come_never_again(self):
        hand = self.start()
        for number in range(3):
            self.does((number, []), "lean", "b", [("an", "a")])
        self.does([], "drop", 1)
        self.does([], "drop", 2)
        self.does("NoRule", "drop", 2)
        self.does((3, []), "lean", "b", [("an", "a")])
        self.tells([(0, "b", 1, [("an", "a")]), (3, "b", 1, [("an", "a")])], hand.rules)
        self.does([], "drop", 0)
        self.does([], "drop", 3)
        self.does((4, []), "lean", "c", [("an", "b")])
        for number in [0, 1, 2, 3, 5]:
            self.does("NoRule", "drop", number)

    def test_the_reason_is_the_least_number_that_gives_just_the_height(self):
        hand = self.start()
        self.does([], "vouch", "a")
        for number, cost in enumerate([3, 2, 2, 1, 1, 4]):
            self.does((number, []), "lean", "b", [("an", "a")], cost)
        for dropped, height, reason in [(0, 1, 3), (3, 1, 4), (4, 2, 1), (1, 2, 2), (2, 4, 5)]:
            self.does([], "drop", dropped)
            self.tells(height, hand.height, "b")
            self.tells(reason, hand.reason, "b")

    def test_the_greatest_premise_counts(self):
        hand = self.start()
        self.does([], "vouch", "a")
        self.does((0, []), "lean", "b", [("an", "a")], 5)
        self.does((1, []), "lean", "c", [("an", "a"), ("an", "b"), ("an", "d")], 2)
        self.tells(None, hand.height, "c")
        self.does([], "vouch", "d")
        self.tells(7, hand.height, "c")
        self.does((2, []), "lean", "b", [("an", "d")], 1)
        self.tells(3, hand.height, "c")

    def test_great_numbers(self):
        hand = self.start()
        cost = 10**20 - 1
        self.does([], "vouch", "a")
        for number, (saying, premise) in enumerate(["ba", "cb", "dc"]):
            self.does((number, []), "lean", saying, [("an", premise)], cost)
        self.tells([("a", 0), ("b", cost), ("c", 2 * cost), ("d", 3 * cost)], hand.settled)

    def test_a_long_chain(self):
        hand = Hand("an")
        for at in range(3000):
            hand.lean(letters_of(at + 1), [("an", letters_of(at))])
        hand.vouch(letters_of(0))
        self.assertEqual(hand.height(letters_of(3000)), 3000)
        self.assertEqual(hand.withdraw(letters_of(0)), [])
        self.assertEqual((hand.settled(), hand.open_ones(), hand.owed()), ([], [], []))


class Neighbours(Doing):
    """Letters to neighbours and from them."""

    def test_joined_and_parted(self):
        hand = self.start()
        for neighbour in ["cy", "bo", "abcdefgh"]:
            self.does([], "join", neighbour)
        self.tells(["abcdefgh", "bo", "cy"], hand.neighbours)
        self.does([], "part", "bo")
        self.tells(["abcdefgh", "cy"], hand.neighbours)
        self.does([], "join", "bo")
        self.tells([], hand.heard_of, "bo")

    def test_all_is_told_to_all_in_order(self):
        self.start("bob", ["cy", "an"])
        self.does([("an", holds("a", 0)), ("cy", holds("a", 0))], "vouch", "a")
        self.does((0, [("an", holds("b", 1)), ("cy", holds("b", 1))]), "lean", "b", [("bob", "a")])
        expected = [("an", opened("a")), ("cy", opened("a")), ("an", opened("b")), ("cy", opened("b"))]
        self.does(expected, "withdraw", "a")

    def test_one_that_joins_is_told_what_is_settled_in_order(self):
        hand = self.start("an", ["bo"])
        for saying in ["c", "a", "b"]:
            self.pair.do("vouch", saying)
        self.pair.do("lean", "d", [("an", "c")], 3)
        self.pair.do("withdraw", "b")
        self.tells(["b"], hand.open_ones)
        self.does([("cy", holds("a", 0)), ("cy", holds("c", 0)), ("cy", holds("d", 3))], "join", "cy")
        # The new one was not told of the giving up, so no answer of it is awaited.
        self.tells(["bo"], hand.awaited, "b")
        self.does("NoLetter", "hear", "cy", heard("b"))
        self.hears("bo", heard("b"))
        self.tells([], hand.open_ones)

    def test_leaning_on_what_a_neighbour_holds(self):
        hand = self.start("an", ["bo"])
        self.does((0, []), "lean", "a", [("bo", "a")], 2)
        self.hears("bo", holds("a", 5), ("bo", holds("a", 7)))
        self.tells([("a", 5)], hand.heard_of, "bo")
        self.hears("bo", holds("a", 4), ("bo", holds("a", 6)))
        self.hears("bo", holds("a", 0), ("bo", holds("a", 2)))
        self.hears("bo", opened("a"), ("bo", opened("a")))
        self.tells([], hand.heard_of, "bo")
        self.tells(("bo", "a"), hand.cause, "a")
        self.tells(["bo"], hand.awaited, "a")
        self.tells([("bo", "a", ["a"])], hand.owed)
        # It is open, so what comes meanwhile is kept, but not looked at.
        self.hears("bo", heard("a"), ("bo", heard("a")))
        self.tells([], hand.owed)
        self.tells(None, hand.cause, "a")
        self.hears("bo", holds("a", 9), ("bo", holds("a", 11)))

    def test_a_best_like_the_height_tells_nothing(self):
        hand = self.start("an", ["bo"])
        self.pair.do("lean", "a", [("bo", "b")], 3)
        self.pair.do("lean", "a", [("bo", "c")], 2)
        self.hears("bo", holds("b", 1), ("bo", holds("a", 4)))
        self.hears("bo", holds("c", 2))
        self.tells(0, hand.reason, "a")
        self.does([], "drop", 0)
        self.tells(1, hand.reason, "a")
        self.does((2, []), "lean", "a", [("bo", "c")], 2)
        self.does([], "drop", 1)
        self.tells([("a", 4, None)], hand.turns)
        self.hears("bo", opened("b"), ("bo", heard("b")))
        self.tells(2, hand.reason, "a")

    def test_of_several_ways_only_the_last_is_given_up_for(self):
        hand = self.start("an", ["bo", "cy"])
        self.pair.do("lean", "a", [("bo", "b")], 1)
        self.pair.do("lean", "a", [("cy", "b")], 1)
        self.hears("bo", holds("b", 0), ("bo", holds("a", 1)), ("cy", holds("a", 1)))
        self.hears("cy", holds("b", 0))
        self.hears("bo", opened("b"), ("bo", heard("b")))
        self.tells(1, hand.reason, "a")
        self.hears("cy", opened("b"), ("bo", opened("a")), ("cy", opened("a")))
        self.tells(("cy", "b"), hand.cause, "a")

    def test_what_would_rise_is_given_up_first(self):
        hand = self.start("an", ["bo"])
        self.pair.do("lean", "a", [("bo", "b")], 1)
        self.pair.do("lean", "a", [("bo", "c")], 1)
        self.pair.do("hear", "bo", holds("b", 0))
        self.pair.do("hear", "bo", holds("c", 8))
        self.hears("bo", opened("b"), ("bo", opened("a")))
        self.tells(None, hand.height, "a")
        self.tells(None, hand.reason, "a")
        self.hears("bo", heard("a"), ("bo", holds("a", 9)), ("bo", heard("b")))
        self.tells([("a", 1, None), ("a", None, ("bo", "b")), ("a", 9, None)], hand.turns)

    def test_several_looks_by_one_letter_go_in_order(self):
        hand = self.start("an", ["bo"])
        for saying in ["c", "a", "d", "b"]:
            self.pair.do("lean", saying, [("bo", "a"), ("bo", "b")])
            self.pair.do("lean", saying, [("bo", "a")], 5)
        self.hears("bo", holds("a", 0), *[("bo", holds(saying, 5)) for saying in "abcd"])
        self.hears("bo", holds("b", 1), *[("bo", holds(saying, 2)) for saying in "abcd"])
        self.hears("bo", opened("a"), *[("bo", opened(saying)) for saying in "abcd"])
        self.tells([("bo", "a", ["a", "b", "c", "d"])], hand.owed)

    def test_an_answer_that_is_owed_for_several_waits_for_the_last(self):
        hand = self.start("an", ["bo", "cy"])
        for saying in "abc":
            self.pair.do("lean", saying, [("bo", "a")])
        self.pair.do("hear", "bo", holds("a", 0))
        self.pair.do("hear", "bo", opened("a"))
        for neighbour, saying in [("bo", "b"), ("cy", "a"), ("cy", "b"), ("bo", "c"), ("bo", "a")]:
            self.hears(neighbour, heard(saying))
            self.assertEqual([row[:2] for row in hand.owed()], [("bo", "a")])
        self.tells([("bo", "a", ["c"])], hand.owed)
        self.tells(["cy"], hand.awaited, "c")
        self.hears("cy", heard("c"), ("bo", heard("a")))
        self.tells([], hand.owed)

    def test_a_giving_up_waits_for_all_answers(self):
        hand = self.start("an", ["bo", "cy", "di"])
        self.pair.do("vouch", "a")
        self.pair.do("withdraw", "a")
        self.tells(["bo", "cy", "di"], hand.awaited, "a")
        self.does([], "vouch", "a")
        for neighbour, rest in [("cy", ["bo", "di"]), ("bo", ["di"])]:
            self.hears(neighbour, heard("a"))
            self.tells(rest, hand.awaited, "a")
            self.does("NoLetter", "hear", neighbour, heard("a"))
            self.tells(None, hand.height, "a")
        self.hears("di", heard("a"), *[(to, holds("a", 0)) for to in ["bo", "cy", "di"]])
        self.tells([], hand.awaited, "a")

    def test_its_own_answer_is_awaited_while_a_saying_that_leans_on_it_is_open(self):
        hand = self.start("an", ["bo"])
        self.pair.do("vouch", "a")
        self.pair.do("lean", "b", [("an", "a")])
        self.does([("bo", opened("a")), ("bo", opened("b"))], "withdraw", "a")
        self.tells(["an", "bo"], hand.awaited, "a")
        self.tells(["bo"], hand.awaited, "b")
        self.tells([("an", "a", ["b"])], hand.owed)
        self.tells(("an", "a"), hand.cause, "b")
        self.hears("bo", heard("a"))
        self.tells(["an"], hand.awaited, "a")
        self.hears("bo", heard("b"))
        self.tells([], hand.open_ones)
        self.tells([], hand.owed)

    def test_letters_to_itself_are_heard_behind_all_else_of_the_deed(self):
        hand = self.start("an", ["bo"])
        self.pair.do("lean", "d", [("an", "b")])
        for saying in ["c", "b"]:
            self.pair.do("lean", saying, [("bo", "a")])
        # The letter's own looks, of b and c, go ahead of d, which leans on b.
        self.hears("bo", holds("a", 0), ("bo", holds("b", 1)), ("bo", holds("c", 1)), ("bo", holds("d", 2)))
        self.hears("bo", opened("a"), ("bo", opened("b")), ("bo", opened("c")), ("bo", opened("d")))
        self.tells([("an", "b", ["d"]), ("bo", "a", ["b", "c"])], hand.owed)
        self.hears("bo", heard("b"))
        self.hears("bo", heard("c"))
        # d closes; by that b gets its own answer, closes, and the last answer goes back.
        self.hears("bo", heard("d"), ("bo", heard("a")))
        self.tells([], hand.open_ones)

    def test_what_is_owed_is_told_in_the_order_of_names_then_of_sayings(self):
        hand = self.start("cy", ["an", "bo", "di"])
        premises = [("di", "a"), ("bo", "b"), ("bo", "a"), ("an", "b")]
        for saying, premise in [*zip("abcd", premises), ("e", premises[1])]:
            self.pair.do("lean", saying, [premise])
        for letter in [holds, lambda saying, _: opened(saying)]:
            for name, saying in premises:
                self.pair.do("hear", name, letter(saying, 0))
        self.tells([("an", "b", ["d"]), ("bo", "a", ["c"]), ("bo", "b", ["b", "e"]), ("di", "a", ["a"])], hand.owed)
        for saying, name, answered in [("d", "an", "b"), ("c", "bo", "a"), ("a", "di", "a")]:
            self.hears("an", heard(saying))
            self.hears("bo", heard(saying))
            self.hears("di", heard(saying), (name, heard(answered)))
        self.tells([("bo", "b", ["b", "e"])], hand.owed)

    def test_what_is_open_already_is_not_given_up_again(self):
        hand = self.start("cy", ["an", "bo", "di"])
        self.pair.do("lean", "a", [("bo", "b")])
        self.pair.do("lean", "a", [("di", "a")], 5)
        self.pair.do("hear", "bo", holds("b", 0))
        self.pair.do("hear", "bo", opened("b"))
        # It is open, so this giving up is answered at once, and nothing is owed for it.
        self.hears("di", holds("a", 0))
        self.hears("di", opened("a"), ("di", heard("a")))
        self.tells(("bo", "b"), hand.cause, "a")
        self.hears("an", heard("a"))
        self.hears("di", heard("a"))
        self.hears("bo", heard("a"), ("bo", heard("b")))
        self.tells([], hand.owed)

    def test_what_closes_settles_ahead_of_its_answers(self):
        self.start("an", ["bo", "cy"])
        self.pair.do("lean", "a", [("bo", "b")])
        self.pair.do("hear", "bo", holds("b", 0))
        self.pair.do("hear", "bo", opened("b"))
        self.pair.do("vouch", "a")
        self.hears("bo", heard("a"))
        self.hears("cy", heard("a"), ("bo", holds("a", 0)), ("cy", holds("a", 0)), ("bo", heard("b")))

    def test_nothing_is_given_up_where_nothing_leans_on_it(self):
        hand = self.start("an", ["bo"])
        self.hears("bo", holds("a", 3))
        self.tells([("a", 3)], hand.heard_of, "bo")
        self.hears("bo", opened("a"), ("bo", heard("a")))
        self.does((0, []), "lean", "b", [("bo", "a")])
        self.hears("bo", holds("a", 3), ("bo", holds("b", 4)))
        self.does([("bo", opened("b"))], "drop", 0)
        self.tells(None, hand.cause, "b")
        self.hears("bo", opened("a"), ("bo", heard("a")))

    def test_dropping_and_leaning_anew_while_open(self):
        hand = self.start("an", ["bo"])
        self.does([("bo", holds("a", 0))], "vouch", "a")
        self.does((0, [("bo", holds("b", 1))]), "lean", "b", [("an", "a")])
        self.does([("bo", opened("b"))], "drop", 0)
        self.does((1, []), "lean", "b", [("an", "a")], 5)
        self.does((2, []), "lean", "b", [("an", "a")], 3)
        self.tells(None, hand.height, "b")
        self.hears("bo", heard("b"), ("bo", holds("b", 3)))
        self.tells(2, hand.reason, "b")

    def test_premises_of_hands_that_are_no_neighbours_give_nothing(self):
        hand = self.start("an", ["bo"])
        self.does((0, []), "lean", "a", [("cy", "a")])
        self.does("NoLetter", "hear", "cy", holds("a", 0))
        self.does([], "join", "cy")
        self.hears("cy", holds("a", 0), ("bo", holds("a", 1)), ("cy", holds("a", 1)))
        self.tells([("a", 0)], hand.heard_of, "cy")


class Parting(Doing):
    """Where a neighbour goes."""

    def test_what_rested_on_it_goes(self):
        hand = self.start("an", ["bo", "cy"])
        for saying, premises in [("b", [("bo", "a")]), ("a", [("cy", "a"), ("bo", "b")]), ("c", [("cy", "a")])]:
            self.pair.do("lean", saying, premises)
        for name, saying in [("bo", "a"), ("bo", "b"), ("cy", "a")]:
            self.pair.do("hear", name, holds(saying, 0))
        self.does([("cy", opened("a")), ("cy", opened("b"))], "part", "bo")
        self.tells(None, hand.cause, "a")
        self.tells(["cy"], hand.awaited, "a")
        self.tells([("c", 1)], hand.settled)
        self.tells([("a", 0)], hand.heard_of, "cy")
        self.does("NoRoad", "part", "bo")

    def test_what_awaits_nobody_else_closes(self):
        hand = self.start("an", ["bo"])
        for saying in ["b", "a"]:
            self.pair.do("vouch", saying)
        for saying in ["b", "a"]:
            self.pair.do("withdraw", saying)
            self.pair.do("vouch", saying)
        self.tells(["a", "b"], hand.open_ones)
        self.does([], "part", "bo")
        self.tells([], hand.open_ones)
        self.tells([("a", 0), ("b", 0)], hand.settled)
        self.assertEqual(hand.turns()[4:], [("a", 0, None), ("b", 0, None)])

    def test_what_awaits_others_too_stays_open(self):
        hand = self.start("an", ["bo", "cy", "di"])
        for saying in ["a", "b"]:
            self.pair.do("vouch", saying)
            self.pair.do("withdraw", saying)
            self.pair.do("vouch", saying)
        self.hears("cy", heard("a"))
        self.hears("di", heard("a"))
        self.does([("cy", holds("a", 0)), ("di", holds("a", 0))], "part", "bo")
        self.tells(["b"], hand.open_ones)
        self.tells(["cy", "di"], hand.awaited, "b")
        self.does([("bo", holds("a", 0))], "join", "bo")
        self.tells(["cy", "di"], hand.awaited, "b")
        self.hears("cy", heard("b"))
        self.hears("di", heard("b"), *[(to, holds("b", 0)) for to in ["bo", "cy", "di"]])

    def test_what_is_owed_to_it_is_forgotten_and_the_cause_is_none(self):
        hand = self.start("an", ["bo", "cy"])
        self.pair.do("lean", "a", [("bo", "a")])
        self.pair.do("lean", "b", [("cy", "a")])
        for letter in [holds("a", 0), opened("a")]:
            for name in ["bo", "cy"]:
                self.pair.do("hear", name, letter)
        self.tells([("bo", "a", ["a"]), ("cy", "a", ["b"])], hand.owed)
        self.does([], "part", "bo")
        self.tells(["a", "b"], hand.open_ones)
        self.tells(None, hand.cause, "a")
        self.tells(("cy", "a"), hand.cause, "b")
        self.tells([("cy", "a", ["b"])], hand.owed)
        # The turns stay as they came.
        self.assertEqual(hand.turns()[-2:], [("a", None, ("bo", "a")), ("b", None, ("cy", "a"))])
        self.hears("cy", heard("a"))
        self.tells(["b"], hand.open_ones)
        self.hears("cy", heard("b"), ("cy", heard("a")))

    def test_the_last_answer_to_another_goes_as_it_closes_by_parting(self):
        self.start("an", ["bo", "cy"])
        self.pair.do("lean", "a", [("bo", "a")])
        self.pair.do("hear", "bo", holds("a", 0))
        self.pair.do("hear", "bo", opened("a"))
        self.hears("bo", heard("a"))
        self.does([("bo", heard("a"))], "part", "cy")

    def test_its_own_letters_are_heard_ahead_of_the_closing(self):
        hand = self.start("an", ["bo"])
        self.pair.do("lean", "a", [("bo", "a")])
        self.pair.do("lean", "b", [("an", "a")])
        self.pair.do("lean", "c", [("bo", "b")])
        self.pair.do("hear", "bo", holds("a", 0))
        self.pair.do("hear", "bo", holds("b", 0))
        self.pair.do("hear", "bo", opened("b"))
        self.tells(["c"], hand.open_ones)
        turns = len(hand.turns())
        self.pair.do("vouch", "c")
        self.does([], "part", "bo")
        expected = [("a", None, None), ("b", None, ("an", "a")), ("c", 0, None)]
        self.assertEqual(hand.turns()[turns:], expected)
        self.tells([("c", 0)], hand.settled)
        self.tells([], hand.owed)

    def test_closings_by_parting_go_in_order_and_their_own_letters_behind_them(self):
        hand = self.start("an", ["bo"])
        self.pair.do("lean", "d", [("an", "a")])
        self.pair.do("lean", "e", [("an", "d")])
        for saying in ["b", "a"]:
            self.pair.do("vouch", saying)
        for saying in ["b", "a"]:
            self.pair.do("withdraw", saying)
            self.pair.do("vouch", saying)
        # e closes and by its own letters d and then a do so: all behind b.
        self.tells(["a", "b", "d", "e"], hand.open_ones)
        turns = len(hand.turns())
        self.does([], "part", "bo")
        expected = [("b", 0, None), ("a", 0, None), ("d", 1, None), ("e", 2, None)]
        self.assertEqual(hand.turns()[turns:], expected)

    def test_its_own_causes_stay(self):
        hand = self.start("an", ["bo", "cy"])
        self.pair.do("vouch", "a")
        self.pair.do("lean", "b", [("an", "a")])
        self.pair.do("withdraw", "a")
        self.does([], "part", "bo")
        self.tells(("an", "a"), hand.cause, "b")
        self.tells([("an", "a", ["b"])], hand.owed)
        self.tells(["an", "cy"], hand.awaited, "a")


class Refusals(Doing):
    """What is refused, and that it changes nothing."""

    def ready(self):
        """A hand in the midst of everything."""
        hand = self.start("an", ["bo", "cy"])
        for saying in ["a", "b"]:
            self.pair.do("vouch", saying)
        for saying, premises in [("c", [("bo", "a")]), ("d", [("an", "c"), ("cy", "a")]), ("e", [("cy", "a")])]:
            self.pair.do("lean", saying, premises, 2)
        self.pair.do("drop", 2)
        for name, height in [("bo", 3), ("cy", 4)]:
            self.pair.do("hear", name, holds("a", height))
            self.pair.do("hear", name, holds("b", height))
        self.pair.do("hear", "cy", opened("b"))
        self.pair.do("withdraw", "b")
        self.pair.do("hear", "bo", opened("a"))
        self.assertEqual(hand.open_ones(), ["b", "c", "d"])
        return hand

    def refused(self, name, what, *rest):
        """Refused by the hand, which then tells all as ahead of it."""
        before = view(self.pair.hand, self.pair.sayings)
        self.refuses(name, self.pair.call, what, *rest)
        after = view(self.pair.hand, self.pair.sayings)
        self.assertTrue(same(list(before.items()), list(after.items())), "what was refused changed something")

    def test_names_of_hands(self):
        for thing in changed("an"):
            if not plain.is_name(thing):
                self.refuses("NoName", Hand, thing)

    def test_things_that_are_no_names(self):
        hand = self.ready()
        for thing in changed("a"):
            if plain.is_name(thing):
                continue
            self.refused("NoName", "vouch", thing)
            self.refused("NoName", "join", thing)
            self.refused("NotVouched", "withdraw", thing)
            self.refused("NoRoad", "part", thing)
            self.refused("NoRule", "lean", thing, [("an", "a")])
            self.refused("NoLetter", "hear", thing, holds("e", 0))
            for teller in [hand.height, hand.reason, hand.awaited, hand.cause]:
                self.refuses("NoName", teller, thing)
            self.refuses("NoRoad", hand.heard_of, thing)

    def test_names_that_do_not_fit(self):
        hand = self.ready()
        self.refused("Twice", "vouch", "a")
        for saying in ["b", "c", "e", "z"]:
            self.refused("NotVouched", "withdraw", saying)
        for neighbour in ["an", "bo", "cy"]:
            self.refused("Twice", "join", neighbour)
        for neighbour in ["an", "di", "a"]:
            self.refused("NoRoad", "part", neighbour)
        for neighbour in ["di", "a"]:
            self.refuses("NoRoad", hand.heard_of, neighbour)

    def test_rules(self):
        self.ready()
        good = ("an", "e", 2, [("an", "a"), ("bo", "b")])
        for thing in changed(good):
            # A changed tuple of four, with the hand's own name, is what can be handed in here.
            if type(thing) == tuple and len(thing) == 4 and not plain.is_rule(("an",) + thing[1:]):
                self.refused("NoRule", "lean", thing[1], thing[3], thing[2])
        for cost in ODD:
            if type(cost) is not int or cost < 1:
                self.refused("NoRule", "lean", "e", [("an", "a")], cost)
                self.refused("NoRule", "lean", "E", [], cost)
        nine = [("an", letter) for letter in "abcdefghi"]
        self.refused("NoRule", "lean", "e", nine)
        self.does((3, []), "lean", "e", nine[:8])

    def test_numbers_of_rules(self):
        self.ready()
        for number in ODD + [2, 3, -1, 10**40, "0", [0], (0,)]:
            if type(number) is not int or number not in (0, 1):
                self.refused("NoRule", "drop", number)

    def test_letters(self):
        self.ready()
        for good in [holds("e", 4), opened("b"), heard("b"), heard("c"), holds("b", 2)]:
            for thing in changed(good):
                if not plain.is_letter(thing):
                    self.refused("NoLetter", "hear", "bo", thing)
            for neighbour in ["an", "di", "a", *ODD]:
                self.refused("NoLetter", "hear", neighbour, good)
        for neighbour in ODD:
            self.refused("NoLetter", "hear", neighbour, neighbour)

    def test_letters_that_do_not_fit(self):
        self.ready()
        for height in [4, 5, 10**40]:
            self.refused("NoLetter", "hear", "cy", holds("a", height))
        for height in [-1, True, False, None, "0"]:
            self.refused("NoLetter", "hear", "cy", ("holds", "a", height))
        for neighbour, saying in [("bo", "a"), ("cy", "b"), ("bo", "c"), ("cy", "z")]:
            self.refused("NoLetter", "hear", neighbour, opened(saying))
        for neighbour, saying in [("bo", "a"), ("cy", "a"), ("bo", "e"), ("cy", "z"), ("an", "b"), ("an", "c")]:
            self.refused("NoLetter", "hear", neighbour, heard(saying))
        for letter in [("holds", "a"), ("holds", "e", 1, 1), ("open", "b", 0), ("heard", "b", 0), ("Open", "b"),
                       ("", "b"), ("close", "b"), ("open", "b", 0, 0), ("heard", "b", 0, 0), ("open",), (), "b"]:
            self.refused("NoLetter", "hear", "bo", letter)
        # What fits is heard as if nothing had been refused.
        self.hears("cy", holds("a", 3))
        self.hears("cy", heard("b"))
        self.does("NoLetter", "hear", "cy", heard("b"))

    def test_things_of_any_size_and_depth(self):
        hand = self.ready()
        great = [("an", letters_of(at)) for at in range(50000)]
        for thing in [deep_list(200000), list_in_itself(), "a" * 10**5, great, tuple(great), ("holds",) * 10**5]:
            self.refused("NoName", "vouch", thing)
            self.refused("NotVouched", "withdraw", thing)
            self.refused("NoRule", "lean", "e", thing)
            self.refused("NoRule", "drop", thing)
            self.refused("NoName", "join", thing)
            self.refused("NoRoad", "part", thing)
            self.refused("NoLetter", "hear", "bo", thing)
            self.refuses("NoName", hand.height, thing)
        self.refused("NoRule", "drop", 10**5000)
        self.refused("NoLetter", "hear", "cy", holds("a", 10**5000))


class Own(Doing):
    """That all that is told is the asker's own."""

    def test_no_two_told_are_one(self):
        hands = []
        for _ in range(2):
            hand = Hand("an")
            hand.join("bo")
            hand.vouch("b")
            premises = [("bo", "a")]
            hand.lean("a", premises)
            hand.lean("b", premises)
            hand.hear("bo", holds("a", 0))
            hand.hear("bo", opened("a"))
            hands.append(hand)
        told = []
        for hand in hands + hands:
            told += [thing for thing in view(hand, ["a", "b"]).values() if type(thing) == list]
            told += [row[3] for row in hand.rules()] + [row[2] for row in hand.owed()]
        lists = {id(thing) for thing in told}
        self.assertEqual(len(lists), len(told))

    def test_deeds_tell_lists_of_their_own(self):
        hand = Hand("an")
        told = [hand.vouch("a"), hand.withdraw("a"), hand.lean("b", [("an", "a")])[1], hand.drop(0), hand.join("bo")]
        told += [hand.vouch("b"), hand.hear("bo", holds("a", 0)), hand.part("bo")]
        self.assertEqual(len({id(thing) for thing in told}), len(told))
        self.assertEqual(told, [[], [], [], [], [], [("bo", holds("b", 0))], [], []])
        for thing in told:
            thing.append(None)
        self.assertEqual(hand.vouch("c"), [])
