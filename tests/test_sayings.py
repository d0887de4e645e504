"""Points 8, 9 and 10: free names, sayings that fit or are refused, and parts by their places."""

import random
import unittest

from figurejudge.errors import NoSaying
from figurejudge.sayings import free_names, look_saying, part_at
from samples import deep_saying, random_saying, says, term, world_of

WORLD = world_of(2)
ROWS = ("A", "F", "LAS", "T")
NAMES = ("a", "b", "n", "nn", "ab", "z")


def inner(saying):
    if saying[0] in ("and", "or"):
        return saying[1:]
    return saying[-1:] if saying[0] in ("not", "some", "each") else ()


def free_by_hand(saying):
    word = saying[0]
    if word in ("some", "each"):
        return free_by_hand(saying[2]) - {saying[1]}
    if word in ("not", "and", "or"):
        return set().union(*[free_by_hand(part) for part in saying[1:]])
    terms = {"same": (1, 2), "less": (1, 2), "sign": (2,), "alike": (2, 4)}[word]
    return {name for spot in terms for name, times in saying[spot][1]}


def places_by_hand(saying, place=()):
    """Pairs (place, part), parts ahead of what they stand in, from left to right."""
    found = []
    for number, part in enumerate(inner(saying)):
        found += places_by_hand(part, place + (number,))
    return found + [(place, saying)]


def fault_by_hand(world, saying):
    for place, part in places_by_hand(saying):
        rows = {"sign": part[1:2], "alike": part[1:4:2]}.get(part[0], ())
        if any(row not in world[1] for row in rows) or len(free_by_hand(part)) > 3:
            return place
    return None


def random_sayings(many, names=NAMES, rows=ROWS):
    chance = random.Random(len(names) + 100 * len(rows))
    return [random_saying(chance, chance.randrange(40), chance.randrange(13), names, rows) for again in range(many)]


class FreeNamesTest(unittest.TestCase):
    def told(self, saying, names):
        told = free_names(saying)
        self.assertIs(type(told), tuple)
        self.assertEqual(told, names)

    def test_of_plain_sayings(self):
        m, n = term(0, "m"), term(5, "n")
        self.told(("same", n, m), ("m", "n"))
        self.told(("less", n, m), ("m", "n"))
        self.told(("same", term(1), n), ("n",))
        self.told(("same", n, term(1)), ("n",))
        self.told(("less", term(1), n), ("n",))
        self.told(("less", n, term(1)), ("n",))
        self.told(("sign", "A", n, 3), ("n",))
        self.told(("alike", "A", n, "F", m), ("m", "n"))
        self.told(("alike", "A", n, "F", term(0)), ("n",))
        self.told(("alike", "A", term(0), "F", m), ("m",))
        self.told(("same", n, n), ("n",))

    def test_of_none(self):
        self.told(("same", term(1), term(2)), ())
        self.told(("sign", "A", term(9), 0), ())
        self.told(("not", ("alike", "A", term(9), "A", term(8))), ())

    def test_rising_by_the_order_of_texts(self):
        self.told(("same", (0, (("n", 1), ("nn", 1), ("z", 2))), (0, (("ab", 1), ("b", 1)))), ("ab", "b", "n", "nn", "z"))
        self.told(("and", says("z"), ("or", says("b"), says("a"))), ("a", "b", "z"))

    def test_within_not_and_or(self):
        self.told(("not", says("b", "a")), ("a", "b"))
        for word in ("and", "or"):
            self.told((word, says("b"), says("a")), ("a", "b"))
            self.told((word, says("a"), says("a")), ("a",))
            self.told((word, says(), says("a")), ("a",))
            self.told((word, says("a"), says()), ("a",))

    def test_bound(self):
        for word in ("some", "each"):
            self.told((word, "n", says("n")), ())
            self.told((word, "n", says("m", "n", "nn")), ("m", "nn"))
            self.told((word, "x", says("m", "n")), ("m", "n"))
            self.told((word, "n", ("not", ("and", says("n"), says("k", "n")))), ("k",))

    def test_bound_again_inside(self):
        for word in ("some", "each"):
            for other in ("some", "each"):
                self.told((word, "n", (other, "n", says("m", "n"))), ("m",))
                self.told((word, "m", (other, "n", says("m", "n"))), ())
                self.told((word, "n", ("and", (other, "n", says("n")), says("n", "z"))), ("z",))

    def test_bound_in_one_part_and_free_in_the_other(self):
        for word in ("some", "each"):
            for joins in ("and", "or"):
                self.told((joins, (word, "n", says("n")), says("n")), ("n",))
                self.told((joins, says("n"), (word, "n", says("n"))), ("n",))
                self.told((joins, (word, "n", says("m", "n")), (word, "m", says("m", "n"))), ("m", "n"))

    def test_more_than_three_are_told(self):
        self.told(("and", says("a", "b", "c"), says("d", "e")), ("a", "b", "c", "d", "e"))

    def test_nested_sayings_by_the_words_of_the_point(self):
        for saying in random_sayings(400):
            self.told(saying, tuple(sorted(free_by_hand(saying))))

    def test_twelve_deep_and_beyond(self):
        for deep in (12, 40, 700):
            self.told(deep_saying(says("n", "q", "r"), deep), ("n", "x"))


class LookSayingTest(unittest.TestCase):
    def fits(self, saying, world=WORLD):
        self.assertIsNone(look_saying(world, saying))

    def refused(self, saying, place, world=WORLD):
        with self.assertRaises(NoSaying) as caught:
            look_saying(world, saying)
        self.assertEqual(caught.exception.place, place)
        self.assertIs(type(caught.exception.place), tuple)

    def test_plain_sayings_that_fit(self):
        self.fits(says())
        self.fits(says("a", "b", "c"))
        self.fits(("less", term(99, "a", "b", "c"), term(0, "a", "b", "c")))
        self.fits(("sign", "LAS", term(1, "n"), 9))
        self.fits(("alike", "A", term(0, "m"), "T", term(0, "n")))
        self.fits(("alike", "A", term(0, "m"), "A", term(0, "m")))

    def test_a_world_without_rows(self):
        world = (3, {})
        self.fits(("each", "n", ("not", ("less", term(0, "n"), term(0)))), world)
        self.refused(("sign", "A", term(0), 0), (), world)

    def test_a_missing_row(self):
        n = term(0, "n")
        self.refused(("sign", "X", n, 0), ())
        self.refused(("alike", "X", n, "A", n), ())
        self.refused(("alike", "A", n, "X", n), ())
        self.refused(("alike", "X", n, "Y", n), ())
        self.refused(("sign", "LA", n, 0), ())
        self.refused(("sign", "LASS", n, 0), ())

    def test_a_name_bound_does_not_stand_for_a_row(self):
        self.refused(("some", "n", ("sign", "N", term(0, "n"), 1)), (0,))

    def test_places_of_a_missing_row(self):
        wrong, right = ("sign", "X", term(0), 0), says("n")
        self.refused(("not", wrong), (0,))
        self.refused(("some", "n", wrong), (0,))
        self.refused(("each", "n", wrong), (0,))
        for word in ("and", "or"):
            self.refused((word, wrong, right), (0,))
            self.refused((word, right, wrong), (1,))
            self.refused((word, wrong, wrong), (0,))
            self.refused((word, ("not", right), ("each", "n", (word, right, wrong))), (1, 0, 1))

    def test_more_than_three_free_names(self):
        self.refused(says("a", "b", "c", "d"), ())
        self.refused(("less", term(0, "a", "b", "c"), term(0, "d")), ())
        self.refused(("sign", "A", term(0, "a", "b", "c", "d"), 1), ())
        self.refused(("alike", "A", term(0, "a", "b"), "T", term(0, "c", "d")), ())
        for word in ("and", "or"):
            self.refused((word, says("a", "b"), says("c", "d")), ())
            self.fits((word, says("a", "b", "c"), says("c", "b", "a")))

    def test_bound_outside_is_too_late(self):
        four = says("a", "b", "c", "d")
        for word in ("some", "each"):
            self.refused((word, "a", four), (0,))
            self.refused(("not", (word, "a", (word, "b", ("and", says("a", "b"), says("c", "d"))))), (0, 0, 0))
            self.refused(("or", says("a"), (word, "d", four)), (1, 0))

    def test_bound_inside_is_in_time(self):
        for word in ("some", "each"):
            self.fits(("and", (word, "a", says("a", "b", "c")), says("d", "b")))
            self.refused(("and", (word, "a", says("a", "b", "c")), says("a", "d")), ())

    def test_parts_ahead_of_what_they_stand_in(self):
        wrong = ("sign", "X", term(0), 0)
        many = ("and", says("a", "b"), says("c", "d"))
        self.refused(("and", many, wrong), (0,))
        self.refused(("and", wrong, many), (0,))
        self.refused(("and", ("or", says("a", "b"), says("c")), ("and", says("d"), wrong)), (1, 1))
        self.refused(("not", ("and", says("a", "b"), ("and", says("c", "d"), ("not", says("a"))))), (0,))
        self.refused(("and", ("and", says("a", "b"), says("c", "d")), ("and", wrong, wrong)), (0,))
        self.refused(("and", ("not", says("a")), ("and", wrong, many)), (1, 0))

    def test_nested_sayings_by_the_words_of_the_point(self):
        seen = {True: 0, False: 0}
        for rows in (ROWS, ROWS * 8 + ("X",)):
            for names in (("a", "b", "c"), NAMES, NAMES[:4]):
                for saying in random_sayings(150, names, rows):
                    place = fault_by_hand(WORLD, saying)
                    seen[place is None] += 1
                    if place is None:
                        self.fits(saying)
                    else:
                        self.refused(saying, place)
        self.assertGreater(min(seen.values()), 100)

    def test_twelve_deep_and_beyond(self):
        for deep in (12, 40, 700):
            self.fits(deep_saying(says("n", "q"), deep))
            wrong = deep_saying(("sign", "X", term(0), 0), deep)
            place = ((0, 1, 0, 1, 0) * deep)[:deep]
            self.refused(wrong, tuple(reversed(place)))

    def test_bounds_are_not_refused(self):
        self.fits(("same", (1000, (("verylong", 50),)), (0, ())))
        self.fits(("sign", "A", term(0), 12))
        wide = says("n")
        for again in range(6):
            wide = ("and", wide, wide)
        self.fits(wide)


class PartAtTest(unittest.TestCase):
    def test_the_saying_itself(self):
        for saying in random_sayings(50):
            self.assertEqual(part_at(saying, ()), saying)

    def test_written_out(self):
        f, g = says("f"), says("g")
        self.assertEqual(part_at(("not", f), (0,)), f)
        for word in ("and", "or"):
            self.assertEqual(part_at((word, f, g), (0,)), f)
            self.assertEqual(part_at((word, f, g), (1,)), g)
        for word in ("some", "each"):
            self.assertEqual(part_at((word, "n", f), (0,)), f)
            self.assertEqual(part_at(("or", f, ("not", (word, "n", ("and", f, g)))), (1, 0, 0, 1)), g)

    def test_every_place_of_nested_sayings(self):
        for saying in random_sayings(300):
            for place, part in places_by_hand(saying):
                self.assertEqual(part_at(saying, place), part)

    def test_twelve_deep_and_beyond(self):
        for deep in (12, 40, 700):
            place = tuple(reversed(((0, 1, 0, 1, 0) * deep)[:deep]))
            self.assertEqual(part_at(deep_saying(says("n"), deep), place), says("n"))


class SamplesTest(unittest.TestCase):
    def test_the_random_sayings_reach_the_bounds(self):
        sayings = random_sayings(400)
        self.assertGreater(max(len(places_by_hand(saying)) for saying in sayings), 30)
        self.assertEqual(max(max(len(place) for place, part in places_by_hand(saying)) for saying in sayings), 12)
        words = {part[0] for saying in sayings for place, part in places_by_hand(saying)}
        self.assertEqual(len(words), 9)


if __name__ == "__main__":
    unittest.main()
