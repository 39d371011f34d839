"""Rings (point 23, its first sentence)."""

import itertools
import random

from leanfar.rings import ring_in
from tests import plain
from tests.asking import Asking, changed, deep_list, list_in_itself
from tests.samples import letters_of


def leanings(rows):
    """Leanings between sayings of one hand: "abc" lets a lead to b and c."""
    return {("an", row[0]): [("an", letter) for letter in row[1:]] for row in rows.split()}


def ring(letters):
    return [("an", letter) for letter in letters]


class Rings(Asking):

    def tells_ring(self, letters, rows):
        """It tells this ring, in whatever order the dict and its lists were filled."""
        expected = None if letters is None else ring(letters)
        given = leanings(rows)
        self.tells(expected, ring_in, given)
        self.tells(expected, ring_in, {place: given[place][::-1] for place in reversed(list(given))})

    def test_none(self):
        for rows in ["", "a", "ab", "abc bc", "ab bc cd", "abcd bcd cd d", "ab cd", "ab b cb"]:
            self.tells_ring(None, rows)

    def test_a_ring_of_one(self):
        self.tells_ring("a", "aa")
        self.tells_ring("b", "ab bb")
        self.tells_ring("c", "ab ba cc")
        self.tells_ring("b", "bab cc")

    def test_a_ring_from_its_least_place(self):
        self.tells_ring("ab", "ba ab")
        self.tells_ring("acb", "ba cb ac")
        self.tells_ring("bdc", "ab bd dc cb")

    def test_the_fewest_places(self):
        self.tells_ring("de", "ab bc ca de ed")
        self.tells_ring("bc", "ab bc cab")
        self.tells_ring("f", "ab bc ca de ed ff")
        self.tells_ring("acd", "abc be ed da cd")

    def test_of_like_size_the_first_as_a_list(self):
        self.tells_ring("ab", "ab ba cd dc")
        self.tells_ring("abd", "acb bd cd da")
        self.tells_ring("ac", "acd ca da bd")
        self.tells_ring("abz", "ab bz za cy yd dc")
        self.tells_ring("acb", "acd cb ba de ea")
        self.tells_ring("abfg", "abc be bf ec ef cf fg ga")

    def test_places_that_are_no_keys_lead_nowhere(self):
        self.tells_ring(None, "ab bc")
        self.tells_ring(None, "abcd bxyz")
        self.tells_ring("bc", "axb bxyc czbx")

    def test_lists_that_name_a_place_twice(self):
        self.tells_ring("ab", "abb bccaa")
        self.tells_ring(None, "abb bcc cdd")
        self.tells_ring("a", "aaa")

    def test_places_of_several_hands_go_by_hands_first(self):
        one, two, three = ("bo", "a"), ("an", "z"), ("an", "b")
        self.tells([three, one], ring_in, {one: [three], three: [one]})
        self.tells([two, one], ring_in, {one: [two], two: [one]})
        self.tells([three, two, one], ring_in, {one: [three], three: [two], two: [one]})

    def test_of_many(self):
        rings = 0
        for seed in range(600):
            chance = random.Random(seed)
            places = [(hand, saying) for hand in ["an", "bo"] for saying in ["a", "b", "c"]]
            keys = chance.sample(places, chance.randint(0, 6))
            given = {place: chance.sample(places, chance.choice([0, 1, 1, 1, 2, 3])) for place in keys}
            expected = plain.ring_in(given)
            rings += expected is not None
            self.tells(expected, ring_in, given)
        self.assertGreater(rings, 100)
        self.assertLess(rings, 500)

    def test_all_of_three_places(self):
        places = ring("abc")
        parts = [list(part) for count in range(4) for part in itertools.combinations(places, count)]
        for rows in itertools.product(parts, repeat=3):
            given = dict(zip(places, rows))
            self.assertEqual(ring_in(given), plain.ring_in(given))

    def test_long_ones(self):
        places = [("an", letters_of(at)) for at in range(1000)]
        way = {place: [following] for place, following in zip(places, places[1:])}
        self.tells(None, ring_in, way)
        self.tells(places, ring_in, {**way, places[-1]: [places[0]]})
        self.tells(places[500:], ring_in, {**way, places[-1]: [places[500], places[0]]})

    def test_wide_ones(self):
        places = [("an", letters_of(at)) for at in range(100)]
        onward = {place: places[at + 1:] for at, place in enumerate(places)}
        self.tells(None, ring_in, onward)
        onward[places[99]] = [places[50]]
        self.tells([places[50], places[99]], ring_in, onward)

    def test_refused(self):
        for thing in changed({("an", "a"): [("an", "b"), ("bo", "a")], ("bo", "a"): []}):
            if not plain.are_leanings(thing):
                self.refuses("NoPaper", ring_in, thing)
        a = ("an", "a")
        for thing in [{a: None}, {a: a}, {a: (a,)}, {a: {a: 0}}, {"a": [a]}, {a: [a, "a"]}, [(a, [a])], [], {a: 0}]:
            self.refuses("NoPaper", ring_in, thing)
        for thing in [deep_list(200000), list_in_itself(), {a: deep_list(200000)}, {a: [a] * 10**5 + [None]}]:
            self.refuses("NoPaper", ring_in, thing)
