"""Texts (points 2, 3 and 26)."""

import random

from leanfar import texts
from leanfar.texts import (
    read_letter, read_place, read_rule, read_what, show_letter, show_place, show_rule, show_what,
)
from leanfar.worlds import is_place, is_rule
from tests import plain, plain_logs, plain_texts
from tests.asking import ODD, Asking, changed, deep_list, list_in_itself, same
from tests.netting import driven_net
from tests.samples import made_worlds

EIGHT = [("an", letter) for letter in "abcdefgh"]
GREAT = [10**63, 10**64 - 1, 10**64, 10**64 + 7, 10**128, 10**129 - 1, 7 * 10**200 + 3, 10**4299, 10**4300, 10**5000 + 1]

# By kinds, texts and what they write.
GOOD = {
    "place": [("an.rain", ("an", "rain")), ("a.a", ("a", "a")), ("abcdefgh.abcdefgh", ("abcdefgh", "abcdefgh"))],
    "rule": [
        ("an.rain = 1 bo.wet an.cold", ("an", "rain", 1, [("bo", "wet"), ("an", "cold")])),
        ("an.rain = 10 an.rain", ("an", "rain", 10, [("an", "rain")])),
        ("an.b = 99 " + " ".join(map(".".join, EIGHT)), ("an", "b", 99, EIGHT)),
    ],
    "letter": [
        ("holds wet 3", ("holds", "wet", 3)), ("holds wet 0", ("holds", "wet", 0)), ("open wet", ("open", "wet")),
        ("heard wet", ("heard", "wet")), ("open open", ("open", "open")), ("holds heard 10", ("holds", "heard", 10)),
    ],
    "what": [
        ("lean rain 1 bo.wet an.cold", ("lean", "rain", 1, [("bo", "wet"), ("an", "cold")])),
        ("lean lean 20 an.lean", ("lean", "lean", 20, [("an", "lean")])),
        ("hear bo holds wet 3", ("hear", "bo", ("holds", "wet", 3))), ("hear bo open wet", ("hear", "bo", ("open", "wet"))),
        ("hear bo heard wet", ("hear", "bo", ("heard", "wet"))), ("vouch rain", ("vouch", "rain")),
        ("withdraw rain", ("withdraw", "rain")), ("drop 0", ("drop", 0)), ("drop 70", ("drop", 70)),
        ("join bo", ("join", "bo")), ("part bo", ("part", "bo")), ("vouch drop", ("vouch", "drop")),
    ],
}

SHOW = {"place": show_place, "rule": show_rule, "letter": show_letter, "what": show_what}
READ = {"place": read_place, "rule": read_rule, "letter": read_letter, "what": read_what}
IS = {"place": plain.is_place, "rule": plain.is_rule, "letter": plain.is_letter, "what": plain_logs.is_what}

# A sign put in, in the place of one, or one left out.
SIGNS = ["", " ", "  ", "0", "1", ".", "=", "-", "+", "_", "\n", "\t", "A", "a", ",", "\u0663", "\u00b2", "\u00e9", "\uff11", "\x00"]


def edited(text):
    """Texts that differ from this one in one place."""
    for at in range(len(text) + 1):
        for sign in SIGNS:
            yield text[:at] + sign + text[at:]
            yield text[:at] + sign + text[at + 1:]
    words = text.split(" ")
    for at in range(len(words)):
        for word in [[], [words[at]] * 2, ["x.y"], ["7"], ["="], ["x"]]:
            yield " ".join(words[:at] + word + words[at + 1:])
    yield " ".join(words[::-1])
    for other in [text + " ", " " + text, text + "\n", text.upper(), text.replace(" ", "\t"), text + "\r\n"]:
        yield other


class Texts(Asking):

    def test_written_and_read_back(self):
        for kind, rows in GOOD.items():
            for text, thing in rows:
                self.tells(text, SHOW[kind], thing)
                self.tells(thing, READ[kind], text)

    def test_numbers_of_many_figures(self):
        for number in [1, 9, 10, 10**20, *GREAT]:
            figures = "".join(str(number // 10**at % 10) for at in range(6000))[::-1].lstrip("0")
            for kind, text, thing in [
                ("rule", f"an.a = {figures} bo.b", ("an", "a", number, [("bo", "b")])),
                ("letter", f"holds a {figures}", ("holds", "a", number)),
                ("what", f"drop {figures}", ("drop", number)),
                ("what", f"lean a {figures} bo.b", ("lean", "a", number, [("bo", "b")])),
                ("what", f"hear bo holds a {figures}", ("hear", "bo", ("holds", "a", number))),
            ]:
                self.tells(text, SHOW[kind], thing)
                self.tells(thing, READ[kind], text)
                for wrong in ["0" + figures, "+" + figures, "-" + figures, figures + ".", figures + "_0", figures + "a"]:
                    self.refuses("NoText", READ[kind], text.replace(figures, wrong))

    def test_named_edges(self):
        for kind, bad in {
            "place": ["", ".", "an", "an.", ".rain", "an.rain.", "an.rain.wet", "an. rain", "An.rain", "an.abcdefghi",
                      "an.rain ", " an.rain", "an,rain", "an rain", "an.rain\n"],
            "rule": ["an.rain = 1", "an.rain = 1 ", "an.rain = 0 bo.wet", "an.rain = 01 bo.wet", "an.rain = +1 bo.wet",
                     "an.rain = -1 bo.wet", "an.rain  = 1 bo.wet", "an.rain = 1  bo.wet", "an.rain = 1 bo.wet ",
                     "an.rain = 1 bo.wet bo.wet", "an.rain == 1 bo.wet", "an.rain 1 bo.wet", "an = 1 bo.wet",
                     "an.rain = 1 bo", "an.rain = \u0661 bo.wet", "an.rain = 1.0 bo.wet", "an.rain = 1_0 bo.wet",
                     "an.rain =1 bo.wet", "an.rain = bo.wet", "an.b = 9 " + " ".join(map(".".join, EIGHT)) + " an.i", ""],
            "letter": ["holds wet", "holds wet 03", "holds wet -3", "holds wet +3", "holds wet 00", "open wet 0",
                       "heard wet 3", "holds  wet 3", "holds wet 3 ", "open", "open Wet", "close wet", "holds 3 wet",
                       "holds wet \u0663", "holds wet \u00b2", "holds wet 3 3", "", " ", "open ", "Open wet"],
            "what": ["lean rain bo.wet", "lean rain 1", "lean rain 01 bo.wet", "lean rain 0 bo.wet", "lean rain 1 bo.wet bo.wet",
                     "lean rain = 1 bo.wet", "lean an.rain 1 bo.wet", "drop", "drop 01", "drop -1", "drop x", "drop 1 1",
                     "hear bo", "hear bo holds wet", "hear bo holds wet 03", "hear bo open wet 3", "hear open wet",
                     "hear", "hear bo hear an open wet", "vouch", "vouch rain rain", "vouch an.rain", "join", "part 3",
                     "come an", "rest", "lean", "lean rain", "", " ", "vouch  rain", "vouch rain "],
        }.items():
            for text in bad:
                self.refuses("NoText", READ[kind], text)
                self.assertFalse(plain_texts.is_text(kind, text), text)

    def test_read_beside_the_plain_writing(self):
        for kind, rows in GOOD.items():
            good = set()
            for text, _ in rows:
                for other in edited(text):
                    if plain_texts.is_text(kind, other):
                        good.add(other)
                        self.tells(plain_texts.read(kind, other), READ[kind], other)
                        self.assertEqual(SHOW[kind](READ[kind](other)), other)
                    else:
                        self.refuses("NoText", READ[kind], other)
            self.assertGreater(len(good), 20)

    def test_texts_of_one_kind_are_none_of_another(self):
        for kind, rows in GOOD.items():
            for text, thing in rows:
                for other in READ:
                    if not plain_texts.is_text(other, text):
                        self.refuses("NoText", READ[other], text)
                    if not IS[other](thing):
                        self.refuses("NoText", SHOW[other], thing)

    def test_rows_of_any_words(self):
        chance = random.Random(1)
        words = ["an.rain", "=", "1", "0", "10", "bo.wet", "rain", "holds", "open", "heard", "lean", "hear", "drop",
                 "vouch", "join", "", "an", "bo.wet"]
        good = 0
        for _ in range(20000):
            text = " ".join(chance.choices(words, k=chance.randint(1, 5)))
            for kind in READ:
                if plain_texts.is_text(kind, text):
                    good += 1
                    self.tells(plain_texts.read(kind, text), READ[kind], text)
                else:
                    self.refuses("NoText", READ[kind], text)
        self.assertGreater(good, 100)

    def test_what_writes_nothing(self):
        for kind, rows in GOOD.items():
            for _, good in rows:
                for thing in changed(good):
                    if not IS[kind](thing):
                        self.refuses("NoText", SHOW[kind], thing)
        for kind in SHOW:
            for thing in [deep_list(200000), list_in_itself(), "a" * 10**5, [("an", "a")] * 10**5]:
                self.refuses("NoText", SHOW[kind], thing)

    def test_what_is_no_text(self):
        texts_of_any = [text for rows in GOOD.values() for text, _ in rows]
        for kind in READ:
            for thing in ODD + [deep_list(200000), list_in_itself(), "a" * 10**6, " " * 10**6, "an." * 10**5, "a.a " * 10**5]:
                if not plain_texts.is_text(kind, thing):
                    self.refuses("NoText", READ[kind], thing)
            for text in texts_of_any:
                for thing in [text.encode(), [text], (text,), list(text), text.split(" "), {text: 1}]:
                    self.refuses("NoText", READ[kind], thing)

    def test_told_rules_are_the_askers_own(self):
        rule, again = [read_rule("an.rain = 1 bo.wet") for _ in range(2)]
        rule[3].clear()
        self.assertEqual(again, ("an", "rain", 1, [("bo", "wet")]))
        self.assertEqual(read_what("lean rain 1 bo.wet")[3], [("bo", "wet")])

    def test_all_that_worlds_and_logs_hold(self):
        for world in made_worlds(40):
            for rule in world[1]:
                self.assertEqual(read_rule(show_rule(rule)), rule)
                self.assertTrue(is_rule(read_rule(show_rule(rule))))
                for premise in rule[3]:
                    self.assertEqual(read_place(show_place(premise)), premise)
                    self.assertTrue(is_place(premise))
        for seed in range(10):
            net = driven_net(seed, 60).net
            for name in net.hands():
                for what, told in net.log(name):
                    self.assertTrue(same(read_what(show_what(what)), what))
                    for _, letter in told:
                        self.assertTrue(same(read_letter(show_letter(letter)), letter))

    def test_each_is_defined_here(self):
        for function in [*SHOW.values(), *READ.values()]:
            self.assertEqual(function.__module__, texts.__name__)
