"""Logs (points 2, 3, 24 and 25)."""

import random

from leanfar.logs import counted, first_wrong, is_what, spans, woven
from leanfar.nets import Net
from tests import plain, plain_logs
from tests.asking import ODD, Asking, changed, copied, deep_list, list_in_itself, same
from tests.driving import driven_alone
from tests.netting import driven_net
from tests.plain_hand import Refused
from tests.samples import letters_of
from tests.test_nets import CHAIN, Playing, place

WHATS = [
    ("vouch", "rain"), ("withdraw", "rain"), ("lean", "rain", 1, [("bo", "wet"), ("an", "cold")]), ("drop", 0),
    ("join", "bo"), ("part", "bo"), ("hear", "bo", ("holds", "wet", 3)), ("hear", "bo", ("open", "wet")),
    ("hear", "bo", ("heard", "wet")),
]


def outcome_of(function, *handed):
    """What the plain writing tells, or the name of the class that it refuses with; Unpromised where it is none."""
    try:
        return function(*handed)
    except Refused as refusal:
        return str(refusal)
    except plain_logs.Unpromised:
        return plain_logs.Unpromised


def net_logs(seed, deeds=70, hands=4):
    """The logs of the hands of a driven net."""
    net = driven_net(seed, deeds, hands).net
    if seed % 3:
        net.rest()
    return {name: net.log(name) for name in net.hands()}


def alone_log(seed, deeds=60):
    """The log of a hand whose neighbours say anything, that is right but fits no net."""
    pair = driven_alone(seed, deeds)
    return pair.hand.name(), pair.log


class Whats(Asking):

    def test_good_ones(self):
        eight = [("an", letter) for letter in "abcdefgh"]
        more = [("lean", "a", 10**30, [("zo", "a")]), ("lean", "a", 1, eight), ("drop", 10**30),
                ("hear", "a", ("holds", "a", 0)), ("hear", "a", ("holds", "a", 10**30)), ("vouch", "abcdefgh")]
        for what in WHATS + more:
            self.tells(True, is_what, what)

    def test_bad_ones(self):
        for what in [
            (), ("vouch",), ("vouch", "rain", "rain"), ("vouch", "Rain"), ("Vouch", "rain"), ("tell", "rain"),
            ["vouch", "rain"], "vouch rain", ("lean", "rain", [("bo", "wet")]), ("lean", "rain", 0, [("bo", "wet")]),
            ("lean", "rain", True, [("bo", "wet")]), ("lean", "rain", 1, []), ("lean", "rain", 1, (("bo", "wet"),)),
            ("lean", "rain", 1, [("bo", "wet")] * 2), ("lean", "rain", 1, [("an", letter) for letter in "abcdefghi"]),
            ("drop", -1), ("drop", True), ("drop", "0"), ("drop",), ("drop", 0, 0), ("join",), ("part", None),
            ("hear", "bo"), ("hear", "bo", "holds", "wet", 3), ("hear", "bo", ("holds", "wet")),
            ("hear", "bo", ("holds", "wet", -1)), ("hear", "bo", ("holds", "wet", True)),
            ("hear", "bo", ["open", "wet"]), ("hear", "Bo", ("open", "wet")), ("hear", ("open", "wet")),
            ("come", "an"), ("step", "an", "bo"), ("rest",),
        ]:
            self.tells(False, is_what, what)

    def test_told_of_anything(self):
        for good in WHATS:
            for thing in changed(good):
                self.assertIs(is_what(thing), plain_logs.is_what(thing))
        for word in ["vouch", "lean", "drop", "hear"]:
            for thing in [deep_list(200000), list_in_itself(), "a" * 10**5, [("an", letters_of(at)) for at in range(50000)]]:
                for what in [(word, thing), (word, thing, thing), (word, thing, thing, thing), (word, "a", 1, thing)]:
                    self.assertIs(is_what(what), False)
        self.assertIs(is_what(("drop", 10**5000)), True)


class Judging(Asking):
    """Which tuple is wrong first."""

    log = [
        (("join", "cy"), []),
        (("join", "bo"), []),
        (("lean", "wet", 2, [("bo", "rain")]), []),
        (("hear", "bo", ("holds", "rain", 1)), [("bo", ("holds", "wet", 3)), ("cy", ("holds", "wet", 3))]),
        (("vouch", "dry"), [("bo", ("holds", "dry", 0)), ("cy", ("holds", "dry", 0))]),
        (("hear", "bo", ("open", "rain")), [("bo", ("open", "wet")), ("cy", ("open", "wet"))]),
        (("hear", "cy", ("heard", "wet")), []),
        (("hear", "bo", ("heard", "wet")), [("bo", ("heard", "rain"))]),
        (("withdraw", "dry"), [("bo", ("open", "dry")), ("cy", ("open", "dry"))]),
        (("part", "bo"), []),
        (("hear", "cy", ("heard", "dry")), []),
        (("drop", 0), []),
    ]

    def wrong_at(self, expected, log, name="an"):
        self.tells(expected, first_wrong, name, log)
        if expected is None:
            self.assertIs(type(self.ask(counted, name, log)), tuple)
            self.assertIs(type(self.ask(spans, name, log)), list)
        else:
            self.refuses("NoLog", counted, name, log)
            self.refuses("NoLog", spans, name, log)
            self.refuses("NoLog", woven, {name: log})

    def test_right_ones(self):
        self.wrong_at(None, [])
        for many in range(len(self.log) + 1):
            self.wrong_at(None, self.log[:many])

    def test_by_other_names(self):
        self.wrong_at(None, self.log, "di")
        self.wrong_at(0, self.log, "cy")
        self.wrong_at(1, self.log, "bo")
        own = [(("vouch", "rain"), []), (("lean", "wet", 1, [("an", "rain")]), []), (("join", "bo"), [
            ("bo", ("holds", "rain", 0)), ("bo", ("holds", "wet", 1))])]
        self.wrong_at(None, own)
        self.wrong_at(2, own, "di")

    def otherwise(self, at, **changes):
        log = list(self.log)
        log[at] = (changes.get("what", log[at][0]), changes.get("told", log[at][1]))
        return log

    def test_told_letters_otherwise(self):
        told = self.log[3][1]
        for other in [
            told[::-1], told[:1], told + told[:1], [], told * 2, tuple(told), [list(row) for row in told], None,
            [("bo", ["holds", "wet", 3]), told[1]], [("bo", ("holds", "wet", 4)), told[1]],
            [("bo", ("holds", "wet")), told[1]], [("bo", ("open", "wet")), told[1]], [("di", told[0][1]), told[1]],
            [told[0], ("cy", ("holds", "dry", 3))], [told[0], ("cy", ("holds", "wet", 3), 0)],
        ]:
            self.wrong_at(3, self.otherwise(3, told=other))
        # A truth is no number.
        self.wrong_at(4, self.otherwise(4, told=[("bo", ("holds", "dry", False)), ("cy", ("holds", "dry", 0))]))
        one = [(("lean", "wet", 1, [("an", "rain")]), []), (("join", "bo"), [])]
        self.wrong_at(None, one + [(("vouch", "rain"), [("bo", ("holds", "rain", 0)), ("bo", ("holds", "wet", 1))])])
        self.wrong_at(2, one + [(("vouch", "rain"), [("bo", ("holds", "rain", 0)), ("bo", ("holds", "wet", True))])])
        # Of lean the number is left out.
        self.wrong_at(2, self.otherwise(2, told=(0, [])))
        self.wrong_at(2, self.otherwise(2, told=[0, []]))

    def test_whats_that_are_none(self):
        for what in [("lean", "wet", [("bo", "rain")]), ("lean", "wet", True, [("bo", "rain")]), ["vouch", "dry"],
                     ("vouch", "Dry"), (), None, ("come", "an"), ("hear", "bo", ("holds", "rain", True))]:
            for at in [2, 4, 11]:
                self.wrong_at(at, self.otherwise(at, what=what))
        self.wrong_at(11, self.otherwise(11, what=("drop", False)))

    def test_whats_that_are_refused_there(self):
        for at, what in [
            (1, ("join", "cy")), (1, ("join", "an")), (1, ("part", "bo")), (2, ("drop", 0)), (2, ("withdraw", "dry")),
            (3, ("hear", "di", ("holds", "rain", 1))), (3, ("hear", "bo", ("open", "rain"))),
            (3, ("hear", "bo", ("heard", "rain"))), (4, ("hear", "bo", ("holds", "rain", 1))),
            (4, ("hear", "bo", ("holds", "rain", 2))), (5, ("vouch", "dry")), (7, ("hear", "cy", ("heard", "wet"))),
            (10, ("hear", "bo", ("heard", "dry"))), (11, ("drop", 1)), (9, ("part", "di")),
        ]:
            self.wrong_at(at, self.otherwise(at, what=what))
            self.wrong_at(at, self.otherwise(at, what=what, told=[]))

    def test_the_first_of_several(self):
        log = list(self.log)
        for at in [10, 7, 4, 1]:
            log[at] = (("vouch", "wet"), None)
            self.wrong_at(at, log)

    def test_one_left_out_or_twice(self):
        for at in range(len(self.log)):
            for log in [self.log[:at] + self.log[at + 1:], self.log[:at + 1] + self.log[at:]]:
                self.wrong_at(plain_logs.first_wrong("an", log), log)

    def test_each_part_otherwise(self):
        log = self.log[1:6]
        for thing in changed(log):
            expected = outcome_of(plain_logs.first_wrong, "an", thing)
            if expected is plain_logs.Unpromised:
                continue
            if expected == "NoRow":
                self.refuses("NoRow", first_wrong, "an", thing)
            else:
                told = first_wrong("an", thing)
                self.assertTrue(same(told, expected), f"{told}, not {expected}")
            for function in [counted, spans]:
                if expected is not None:
                    self.refuses("NoLog", function, "an", thing)
            if expected is not None:
                self.refuses("NoLog", woven, {"an": thing})

    def test_logs_of_nets(self):
        for seed in range(24):
            for name, log in net_logs(seed).items():
                self.wrong_at(None, log, name)
                for other in ["an", "bo", "cy", "zo"]:
                    self.wrong_at(plain_logs.first_wrong(other, log), log, other)

    def test_what_is_no_log(self):
        for thing in ODD:
            if not plain_logs.are_rows(thing):
                self.refuses("NoRow", first_wrong, "an", thing)
                self.refuses("NoLog", counted, "an", thing)
                self.refuses("NoLog", spans, "an", thing)
        for log in [tuple(self.log), self.log + [None], self.log + [()], [list(row) for row in self.log],
                    self.log + [self.log[0] + ([],)], [(("vouch", "Dry"), [])] + [[]], {0: self.log[0]}]:
            self.refuses("NoRow", first_wrong, "an", log)
            self.refuses("NoLog", counted, "an", log)
            self.refuses("NoLog", spans, "an", log)

    def test_names(self):
        for thing in changed("an"):
            if not plain.is_name(thing):
                for function in [first_wrong, counted, spans]:
                    for log in [self.log, None, [None], [(None, None)]]:
                        self.refuses("NoName", function, thing, log)

    def test_things_of_any_size_and_depth(self):
        for thing in [deep_list(200000), list_in_itself(), (deep_list(200000),) * 2, "a" * 10**5]:
            for log in [[(("vouch", thing), [])], [(("vouch", "a"), thing)], [(thing, [])], [(("drop", 0, thing), [])],
                        [(("hear", "bo", thing), [])], [(("lean", "a", 1, thing), [])], [(("vouch", "a"), [thing])],
                        [(("join", "bo"), []), (("vouch", "a"), [("bo", thing)])],
                        [(("join", "bo"), []), (("vouch", "a"), [("bo", ("holds", "a", thing))])]]:
                self.assertEqual(first_wrong("an", log), len(log) - 1)
                self.refuses("NoLog", counted, "an", log)
            self.refuses("NoRow", first_wrong, "an", thing)


class Told(Playing):
    """What is told of right logs."""

    def spans_of(self, expected, rows, name="an"):
        net = self.start(rows)
        self.tells(expected, spans, name, net.log(name))
        self.assertEqual(expected, plain_logs.spans(name, net.log(name)))

    def test_counted(self):
        self.tells((0, 0, 0, 0, 0, 0), counted, "an", [])
        self.tells((1, 1, 2, 4, 4, 1), counted, "an", Judging.log[:9])
        self.tells((1, 1, 3, 4, 4, 1), counted, "an", Judging.log)
        net = self.start(CHAIN + "withdraw an rain; rest")
        self.tells((2, 2, 2, 2, 2, 2), counted, "bo", net.log("bo"))
        self.tells((1, 1, 1, 1, 1, 1), counted, "cy", net.log("cy"))

    def test_spans(self):
        self.tells([("wet", 5, 7, ("bo", "rain")), ("dry", 8, 10, None)], spans, "an", Judging.log)
        self.tells([("wet", 5, None, ("bo", "rain"))], spans, "an", Judging.log[:7])
        self.tells([], spans, "an", Judging.log[:5])
        self.tells([], spans, "an", [])

    def test_spans_that_begin_anew(self):
        two = "come an; come bo; join an bo; vouch an rain"
        once = "withdraw an rain; rest; vouch an rain;"
        self.spans_of([("rain", 2, 3, None), ("rain", 5, 6, None)], two + ";" + once * 2)
        self.spans_of([("rain", 2, 3, None), ("rain", 5, None, None)], two + ";" + once + "withdraw an rain")

    def test_spans_of_one_tuple(self):
        alone = "come an; vouch an rain; lean an wet 1 an.rain; lean an cold 1 an.wet; lean an dry 1 an.rain"
        expected = [("rain", 4, 4, None), ("dry", 4, 4, place("an.rain")), ("wet", 4, 4, place("an.rain")),
                    ("cold", 4, 4, place("an.wet"))]
        self.spans_of(expected, alone + "; withdraw an rain")
        joined = "come bo; " + alone + "; join an bo; withdraw an rain"
        self.spans_of([(saying, 5, None, cause) for saying, _, _, cause in expected], joined)
        # In the order in which they were given up, though they close in another one.
        expected = [("rain", 5, 9, None), ("dry", 5, 7, place("an.rain")), ("wet", 5, 9, place("an.rain")),
                    ("cold", 5, 9, place("an.wet"))]
        self.spans_of(expected, joined + "; rest")

    def test_spans_of_what_is_given_up_again_by_the_same_tuple(self):
        # a settles anew on what is about to go, too, and is given up again.
        rows = """
            come an; vouch an x; lean an b 1 an.x; lean an a 1 an.b; lean an e 1 an.x; lean an d 1 an.e
            lean an c 1 an.d; lean an f 1 an.c; lean an g 1 an.f; lean an a 1 an.g; withdraw an x
        """
        net = self.start(rows)
        found = [span[0] for span in spans("an", net.log("an"))]
        self.assertEqual(found.count("a"), 2)
        self.spans_of(plain_logs.spans("an", net.log("an")), rows)

    def test_causes_as_at_the_giving_up(self):
        rows = CHAIN + "withdraw an rain; step an bo; part an bo"
        self.spans_of([("wet", 5, None, place("an.rain"))], rows, "bo")
        self.spans_of([("wet", 5, 8, place("an.rain"))], rows + "; rest; part bo cy", "bo")
        self.spans_of([("wet", 5, None, None)], CHAIN + "part an bo", "bo")
        self.spans_of([("rain", 3, 4, None)], CHAIN + "withdraw an rain; part an bo", "an")

    def test_of_driven_logs(self):
        many = 0
        for seed in range(40):
            logs = net_logs(seed, hands=1 + seed % 4)
            name, log = alone_log(seed)
            for name, log in [*logs.items(), (name, log)]:
                expected = plain_logs.spans(name, log)
                many += len(expected)
                self.tells(expected, spans, name, log)
                self.tells(plain_logs.counted(name, log), counted, name, log)
        self.assertGreater(many, 100)

    def test_told_things_are_the_askers_own(self):
        log = Judging.log
        told = spans("an", log)
        told.clear()
        self.assertEqual(len(spans("an", log)), 2)
        self.assertIsNot(woven({"an": []}), woven({"an": []}))


class Woven(Playing):

    def weaves(self, expected, logs):
        self.tells(expected, woven, logs)
        self.tells(expected, woven, {name: logs[name] for name in reversed(list(logs))})

    def logs(self, rows):
        net = self.start(rows)
        return {name: net.log(name) for name in net.hands()}

    def test_of_none_and_of_one(self):
        self.weaves([], {})
        self.weaves([], {"an": []})
        self.weaves([], {"an": [], "bo": []})
        self.weaves(["an", "an"], self.logs("come an; vouch an rain; withdraw an rain"))

    def test_the_least_name_that_can_go_on(self):
        self.weaves(["an", "an", "bo"], self.logs("come an; come bo; vouch bo rain; vouch an rain; vouch an dry"))
        # bo must be heard first, and joins stand there once.
        rows = "come an; come bo; join bo an; vouch bo rain; step bo an; vouch an dry; vouch bo mud"
        self.weaves(["an", "bo", "an", "an", "bo"], self.logs(rows))

    def test_joins_and_parts_stand_there_once_by_the_lesser_name(self):
        self.weaves(["an", "an", "an"], self.logs("come an; come bo; join bo an; part an bo; join an bo"))
        rows = "come cy; come an; come bo; vouch cy rain; join cy bo; join cy an; step cy an; part cy an"
        self.weaves(["cy", "bo", "an", "an", "an"], self.logs(rows))

    def test_a_join_in_one_only(self):
        logs = self.logs("come an; come bo; vouch an rain; join an bo; part an bo")
        self.weaves(["an", "an", "an"], logs)
        for name in ["an", "bo"]:
            for log in [[], logs[name][:1], logs[name][:-1]]:
                self.weaves(None, {**logs, name: log})
            self.weaves(None, {name: logs[name]})

    def test_letters_that_nobody_told(self):
        logs = self.logs("come an; come bo; join an bo; vouch an rain; vouch an dry; rest")
        self.weaves(["an", "an", "an", "bo", "bo"], logs)
        silent = [(("join", "bo"), [])]
        self.weaves(None, {**logs, "an": silent})
        self.weaves(None, {**logs, "an": logs["an"][:2]})
        other = [(("join", "bo"), []), (("vouch", "dry"), [("bo", ("holds", "dry", 0))]),
                 (("vouch", "rain"), [("bo", ("holds", "rain", 0))])]
        self.weaves(None, {**logs, "an": other})
        self.weaves(["an", "an", "an"], {**logs, "bo": logs["bo"][:1]})

    def test_letters_that_were_gone_with_the_road(self):
        logs = self.logs("come an; come bo; join an bo; vouch an rain; part an bo; join an bo; rest")
        self.weaves(["an", "an", "an", "an", "bo"], logs)
        # Heard once more, from the road that was parted.
        heard = (("hear", "an", ("holds", "rain", 0)), [])
        joined = logs["bo"][:1]
        self.weaves(["an", "an", "bo", "an", "an", "bo"], {**logs, "bo": joined + [heard] + logs["bo"][1:]})
        self.weaves(None, {"an": logs["an"][:3], "bo": joined + logs["bo"][1:2] + joined + [heard]})

    def test_who_waits_for_one_another(self):
        # Each hears what the other one tells only later.
        an = [(("join", "bo"), []), (("hear", "bo", ("holds", "wet", 0)), []),
              (("vouch", "wet"), [("bo", ("holds", "wet", 0))])]
        bo = [(("join", "an"), []), (("hear", "an", ("holds", "wet", 0)), []),
              (("vouch", "wet"), [("an", ("holds", "wet", 0))])]
        self.weaves(None, {"an": an, "bo": bo})
        self.weaves(["an", "an", "bo", "bo", "an"], {"an": [an[0], an[2], an[1]], "bo": bo})
        # Three that want to join one another in a ring.
        ring = {"an": ["bo", "cy"], "bo": ["cy", "an"], "cy": ["an", "bo"]}
        self.weaves(None, {name: [(("join", other), []) for other in ring[name]] for name in ring})
        ring["cy"].reverse()
        self.weaves(["bo", "an", "an"], {name: [(("join", other), []) for other in ring[name]] for name in ring})

    def test_who_wants_to_join_one_that_joins_another_first(self):
        joins = {"an": ["bo"], "bo": ["an"], "cy": ["bo"]}
        self.weaves(None, {name: [(("join", other), []) for other in joins[name]] for name in joins})
        joins["bo"].append("cy")
        self.weaves(["an", "bo"], {name: [(("join", other), []) for other in joins[name]] for name in joins})

    def test_logs_of_nets(self):
        for seed in range(40):
            logs = net_logs(seed, hands=1 + seed % 5)
            expected = plain_logs.woven(logs)
            self.assertIsNotNone(expected)
            self.weaves(expected, logs)
            joins = sum(1 for log in logs.values() for what, _ in log if what[0] in ("join", "part"))
            self.assertEqual(len(expected), sum(map(len, logs.values())) - joins // 2)

    def test_of_logs_that_are_cut_or_mixed(self):
        nones = 0
        for seed in range(150):
            chance = random.Random(seed)
            logs = net_logs(seed % 20, 40, 3)
            others = net_logs(chance.randint(0, 20), 40, 3)
            for name in list(logs):
                logs[name] = logs[name][:chance.randint(0, len(logs[name]))] if chance.random() < 0.4 else logs[name]
                if chance.random() < 0.1 and name in others:
                    logs[name] = others[name]
            expected = plain_logs.woven(logs)
            nones += expected is None
            self.weaves(expected, logs)
        self.assertGreater(nones, 40)
        self.assertLess(nones, 140)

    def test_the_first_of_all_orders(self):
        """Held against all orders there are."""
        many = 0
        for seed in range(200):
            chance = random.Random(seed)
            logs = net_logs(seed, 9, 3)
            if seed % 2:
                logs = {name: log[:chance.randint(0, len(log))] for name, log in logs.items()}
            if sum(map(len, logs.values())) <= 9:
                found = list(plain_logs.orders(logs))
                many += len(found) > 1
                self.weaves(min(found) if found else None, logs)
        self.assertGreater(many, 20)

    def test_woven_logs_make_the_net_anew(self):
        for seed in range(10):
            logs = net_logs(seed)
            net = Net()
            for name in logs:
                net.come(name)
            left = {name: list(log) for name, log in logs.items()}
            for name in woven(logs):
                what, _ = left[name].pop(0)
                if what[0] in ("join", "part"):
                    left[what[1]].pop(0)
                self.do_again(net, name, what)
            self.assertEqual({name: net.log(name) for name in logs}, logs)

    def do_again(self, net, name, what):
        word, *rest = what
        if word == "lean":
            net.lean(name, rest[0], rest[2], cost=rest[1])
        elif word == "hear":
            net.step(rest[0], name)
        else:
            getattr(net, word)(name, *rest)

    def test_refused(self):
        good = self.logs("come an; come bo; join an bo; vouch an rain; step an bo")
        for thing in changed(good):
            if outcome_of(plain_logs.woven, thing) == "NoLog":
                self.refuses("NoLog", woven, thing)
        for thing in [{"an": None}, {"An": []}, {None: []}, {1: []}, {("an", "bo"): []}, [("an", [])], [], (), None,
                      {"an": [], "bo": ()}, {"an": [(("vouch", "rain"), None)]}, {"an": good["bo"], "bo": good["an"]},
                      {**good, "cy": [(("vouch", "rain"), [("an", ("holds", "rain", 0))])]}]:
            self.refuses("NoLog", woven, thing)

    def test_a_log_at_the_limits(self):
        net = Net()
        names = [letters_of(at) for at in range(100)]
        for name in names:
            net.come(name)
        for at in range(1, 100):
            net.join(names[at], names[at // 2])
        for _ in range(8):
            for name in names:
                net.vouch(name, "wet")
            for name in names:
                net.withdraw(name, "wet")
            net.rest()
        logs = {name: net.log(name)[:300] for name in names}
        kept = copied(logs)
        self.assertIsNotNone(woven(logs))
        self.assertTrue(same(logs, kept))
