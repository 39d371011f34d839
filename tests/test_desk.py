"""The desk (points 2, 3, 27 and 28)."""

import random

from leanfar import errors, reading
from leanfar.desk import Desk
from leanfar.nets import Net
from tests import plain_texts
from tests.asking import ODD, Asking, deep_list, list_in_itself
from tests.test_texts import edited

ROWS = [
    "come an", "join an bo", "part an bo", "vouch an rain", "withdraw an rain", "drop an 0", "drop an 10",
    "step an bo", "an.rain = 1 bo.wet an.cold", "rest", "hands", "roads", "open", "lie", "all", "height an rain",
    "reason an rain", "why an rain", "whynot an rain", "blame an rain",
]


def dotted(place):
    return ".".join(place)


def row_of(words, none="none"):
    return " ".join(words) or none


def answer(net, row):
    """What a desk with this net should say to a row of words, or the name of the class that it is refused with."""
    try:
        return plain_answer(net, row.split(" "))
    except errors.LeanError as refusal:
        return type(refusal).__name__


def plain_answer(net, words):
    word, *rest = words
    if "." in word:
        hand, saying, cost, premises = plain_texts.read("rule", " ".join(words))
        return str(net.lean(hand, saying, premises, cost=cost))
    if word in ["come", "join", "part", "vouch", "withdraw", "step"]:
        getattr(net, word)(*rest)
        return "ok"
    if word == "drop":
        net.drop(rest[0], int(rest[1]))
        return "ok"
    if word == "height" or word == "reason":
        told = getattr(net, word)(*rest)
        return "none" if told is None else "vouched" if told == -1 else str(told)
    if word == "whynot":
        return row_of(map(dotted, reading.why_not(net.world(), tuple(rest))))
    if word == "why":
        return row_of(dotted(place) for place, _ in net.why(tuple(rest)))
    if word == "blame":
        return row_of(map(dotted, net.blame(tuple(rest))))
    return {
        "rest": lambda: str(net.rest()),
        "hands": lambda: row_of(net.hands()),
        "roads": lambda: row_of("-".join(road) for road in net.roads()),
        "open": lambda: row_of(map(dotted, net.open_places())),
        "lie": lambda: str(net.lying()),
        "all": lambda: row_of(f"{dotted(place)}:{height}" for place, height in sorted(net.heights().items())),
    }[word]()


class Says(Asking):
    """A desk, row by row; where a class is named the row is refused with it."""

    def says(self, desk, rows):
        for line in rows.strip().splitlines():
            row, expected = [part.strip() for part in line.split(">")]
            if hasattr(errors, expected):
                self.refuses(expected, desk.say, row)
            else:
                told = desk.say(row)
                self.assertIs(type(told), str)
                self.assertEqual(told, expected, row)

    def test_a_new_desk(self):
        self.says(Desk(), """
            hands > none
            roads > none
            open > none
            all > none
            lie > 0
            rest > 0
            height an rain > NoHand
            whynot an rain > an.rain
            why an rain > NoHand
            come none > ok
            hands > none
        """)

    def test_each_row(self):
        self.says(Desk(), """
            come cy > ok
            come an > ok
            come bo > ok
            come an > Twice
            hands > an bo cy
            join bo an > ok
            join cy bo > ok
            join an bo > Twice
            roads > an-bo bo-cy
            vouch an rain > ok
            vouch an rain > Twice
            an.mud = 12 an.rain > 0
            bo.wet = 1 an.rain an.mud > 0
            bo.wet = 30 an.rain > 1
            cy.cold = 2 bo.wet > 0
            lie > 2
            all > an.mud:12 an.rain:0
            open > none
            why an rain > Busy
            whynot an rain > Held
            whynot bo wet > Held
            whynot zo wet > zo.wet
            whynot an dry > an.dry
            step an bo > ok
            step bo an > ok
            step bo an > Empty
            step an an > Empty
            lie > 2
            rest > 6
            all > an.mud:12 an.rain:0 bo.wet:13 cy.cold:15
            height bo wet > 13
            height bo mud > none
            height zo mud > NoHand
            reason an rain > vouched
            reason bo wet > 0
            reason bo mud > none
            why cy cold > an.rain an.mud bo.wet cy.cold
            why cy rain > NotHeld
            why zo rain > NoHand
            blame an rain > NotOpen
            blame zo rain > NoHand
            drop bo 0 > ok
            drop bo 0 > NoRule
            drop bo 2 > NoRule
            open > bo.wet
            blame bo wet > bo.wet
            step bo cy > ok
            blame cy cold > cy.cold bo.wet
            open > bo.wet cy.cold
            rest > 8
            all > an.mud:12 an.rain:0 bo.wet:30 cy.cold:32
            reason bo wet > 1
            withdraw an rain > ok
            withdraw an rain > NotVouched
            rest > 10
            all > none
            whynot cy cold > an.rain bo.wet cy.cold
            part an bo > ok
            part an bo > NoRoad
            whynot cy cold > bo.wet cy.cold
            part an zo > NoHand
            join an an > NoHand
            roads > bo-cy
            zo.wet = 1 an.rain > NoHand
            step zo an > NoHand
        """)

    def test_whynot_while_letters_lie(self):
        self.says(Desk(), """
            come an > ok
            come bo > ok
            join an bo > ok
            vouch an rain > ok
            bo.wet = 1 an.rain > 0
            height bo wet > none
            whynot bo wet > Held
            rest > 2
            withdraw an rain > ok
            height bo wet > 1
            whynot bo wet > an.rain bo.wet
            why bo wet > Busy
        """)

    def test_great_numbers(self):
        cost = "7" * 5000
        desk = Desk()
        for row in ["come an", "vouch an rain"]:
            desk.say(row)
        self.assertEqual(desk.say(f"an.wet = {cost} an.rain"), "0")
        self.assertEqual(desk.say("height an wet"), cost)
        self.assertEqual(desk.say("all"), f"an.rain:0 an.wet:{cost}")
        self.refuses("NoRule", desk.say, f"drop an {cost}")
        self.refuses("NoRow", desk.say, f"drop an 0{cost}")

    def test_beside_the_same_deeds_of_a_net(self):
        answers = set()
        for seed in range(30):
            chance = random.Random(seed)
            desk, net = Desk(), Net()
            for _ in range(150):
                row = self.some_row(chance)
                expected = answer(net, row)
                answers.add(expected)
                if hasattr(errors, expected):
                    self.refuses(expected, desk.say, row)
                else:
                    self.assertEqual(desk.say(row), expected, row)
            for row in ["hands", "roads", "open", "lie", "all"]:
                self.assertEqual(desk.say(row), answer(net, row))
        refusals = {"Twice", "NoHand", "NoRoad", "NotVouched", "NoRule", "Empty", "Busy", "NotHeld", "Held", "NotOpen"}
        self.assertLessEqual(refusals | {"ok", "none", "vouched", "0"}, answers)

    def some_row(self, chance):
        hands, sayings = ["an", "bo", "cy"], ["ice", "wet"]
        word = chance.choice([
            "come", "come", "join", "join", "part", "vouch", "vouch", "withdraw", "drop", "step", "step", "step",
            "step", "rule", "rule", "rule", "rest", "hands", "roads", "open", "lie", "all", "height", "reason", "why",
            "why", "whynot", "blame", "blame",
        ])
        if word == "rule":
            near = [f"{hand}.{saying}" for hand in hands for saying in sayings]
            premises = " ".join(chance.sample(near, chance.choice([1, 1, 2])))
            return f"{chance.choice(near)} = {chance.randint(1, 12)} {premises}"
        many = {"come": 1, "rest": 0, "hands": 0, "roads": 0, "open": 0, "lie": 0, "all": 0}.get(word, 2)
        rest = [chance.choice(hands)][:many]
        if many == 2:
            others = ["0", "1"] if word == "drop" else hands if word in ["join", "part", "step"] else sayings
            rest.append(chance.choice(others))
        return " ".join([word, *rest])


class NoRows(Asking):
    """What is no row of words is refused first of all, and changes nothing."""

    def test_edited_rows(self):
        desk = Desk()
        for row in ROWS:
            for other in edited(row):
                if not plain_texts.is_text("row", other):
                    self.refuses("NoRow", desk.say, other)
        self.assertEqual(desk.say("hands"), "none")

    def test_the_words_but_not_the_names(self):
        desk = Desk()
        desk.say("come an")
        for row in [
            "come An", "come abcdefghi", "come", "come an bo", "join an", "join an bo cy", "join an 3", "vouch an an.rain",
            "vouch an", "vouch an rain rain", "withdraw an Rain", "drop an", "drop an x", "drop an 01", "drop an -1",
            "drop an +1", "drop 0 an", "drop an \u0663", "drop an 1.0", "step an", "step an bo cy", "rest an", "hands an",
            "roads none", "open an", "open an rain", "lie 0", "all an", "height an", "height an.rain", "reason an rain wet",
            "why an", "why an.rain", "whynot an", "blame an", "an.rain = 0 bo.wet", "an.rain = 01 bo.wet",
            "an.rain = 1 bo.wet bo.wet", "an.rain = 1", "an.rain 1 bo.wet", "lean an rain 1 bo.wet", "hear an open wet",
            "", " ", "come  bo", " come bo", "come bo ", "come\tbo", "come bo\n", "Come bo", "COME bo", "none", "ok",
            "lying", "world", "come an; come bo", "height zo Rain", "whynot zo Rain", "join zo Zo", "drop zo x",
        ]:
            self.refuses("NoRow", desk.say, row)
        self.assertEqual([desk.say(row) for row in ["hands", "roads", "open", "lie", "all"]], ["an", "none", "none", "0", "none"])

    def test_of_anything(self):
        desk = Desk()
        for thing in ODD + [deep_list(200000), list_in_itself(), "a" * 10**6, " " * 10**6, "come " * 10**5]:
            self.refuses("NoRow", desk.say, thing)
        for row in ROWS:
            for thing in [row.encode(), [row], (row,), row.split(" "), tuple(row.split(" ")), {row: row}]:
                self.refuses("NoRow", desk.say, thing)

    def test_what_is_refused_changes_nothing(self):
        desk = Desk()
        for row in ["come an", "come bo", "join an bo", "vouch an rain", "bo.wet = 1 an.rain", "rest", "withdraw an rain",
                    "step an bo"]:
            desk.say(row)
        asked = ["hands", "roads", "open", "lie", "all", "height bo wet", "blame bo wet", "whynot bo wet"]
        before = [desk.say(row) for row in asked]
        for row in ["come an", "join an bo", "join an an", "part an zo", "vouch zo rain", "withdraw an rain", "drop bo 1",
                    "step an bo", "zo.wet = 1 an.rain", "why bo wet", "blame an wet", "an.rain = 0 bo.wet", "vouch an Rain"]:
            with self.assertRaises(errors.LeanError):
                desk.say(row)
            self.assertEqual([desk.say(row) for row in asked], before)

    def test_desks_have_nets_of_their_own(self):
        first, second = Desk(), Desk()
        first.say("come an")
        self.assertEqual((first.say("hands"), second.say("hands")), ("an", "none"))
