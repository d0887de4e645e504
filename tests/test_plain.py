"""Points 8, 9 and 11: what terms stand for, and sayings looked at plainly."""

import copy
import itertools
import random
import unittest

from figurejudge.plain import holds_plainly, worth_of
from samples import (ATOM_WORDS, BASES, deep_saying, holds_by_hand, random_atom, random_saying, random_world, says,
                     some_numbers, term, world_of, worth_by_hand)

NAMES = ("a", "k", "nn")
ROWS = ("A", "B")
N, M = (0, (("n", 1),)), (0, (("m", 1),))


def is_(number, name="n"):
    """A saying that a name's number is this one."""
    return "same", (0, ((name, 1),)), (number, ())


TRUE, UNTRUE = ("same", (0, ()), (0, ())), ("less", (0, ()), (0, ()))


class WorthTest(unittest.TestCase):
    def told(self, term, values, number):
        before = copy.deepcopy(values)
        worth = worth_of(term, values)
        self.assertEqual(worth, number)
        self.assertIs(type(worth), int)
        self.assertEqual(list(values.items()), list(before.items()))

    def test_without_names(self):
        for number in (0, 1, 57, 99):
            self.told((number, ()), {}, number)
            self.told((number, ()), {"n": 5}, number)

    def test_each_times_and_number(self):
        for times in range(1, 10):
            for number in (0, 1, 98, 99):
                self.told((number, (("n", times),)), {"n": 1000}, number + 1000 * times)
                self.told((number, (("n", times),)), {"n": 0, "m": 4}, number)

    def test_two_and_three_names(self):
        values = {"c": 10000, "a": 1, "b": 100, "d": 10 ** 9}
        self.told((7, (("a", 2), ("b", 9))), values, 909)
        self.told((0, (("a", 3), ("b", 1), ("c", 8))), values, 80103)
        self.told((99, (("b", 4), ("c", 5), ("d", 1))), values, 10 ** 9 + 50499)

    def test_great_numbers(self):
        chance = random.Random(1)
        for size in (40, 130, 1000, 4000):
            for again in range(10):
                values = {name: chance.randrange(10 ** size) for name in NAMES + ("z",)}
                parts = tuple((name, chance.randint(1, 9)) for name in NAMES[:chance.randint(0, 3)])
                given = (chance.randrange(100), parts)
                self.told(given, values, worth_by_hand(given, values))

    def test_beyond_the_bounds(self):
        self.told((1000, (("verylong", 50),)), {"verylong": 3}, 1150)


class PlainTest(unittest.TestCase):
    def told(self, world, saying, values, most, truth):
        before = copy.deepcopy(values)
        told = holds_plainly(world, saying, values, most)
        self.assertIs(told, truth, (saying, values, most))
        self.assertEqual(list(values.items()), list(before.items()))

    def by_hand(self, world, saying, values, most):
        self.told(world, saying, values, most, holds_by_hand(world, saying, values, most))

    def test_same_and_less(self):
        for base in BASES:
            world = world_of(base)
            for n, m in itertools.product(range(7), repeat=2):
                values = {"n": n, "m": m}
                self.told(world, ("same", N, M), values, 0, n == m)
                self.told(world, ("less", N, M), values, 0, n < m)
                self.told(world, ("same", (3, (("n", 2),)), (0, (("m", 3),))), values, 0, 2 * n + 3 == 3 * m)
                self.told(world, ("less", (3, (("n", 2),)), (4, (("m", 3),))), values, 5, 2 * n + 3 < 3 * m + 4)

    def test_sign_and_alike(self):
        for base in BASES:
            world = world_of(base)
            for n, m in itertools.product(range(20), repeat=2):
                values = {"n": n, "m": m}
                self.told(world, ("sign", "A", (2, (("n", 3),)), 1), values, 0, (3 * n + 2) % base == 1)
                self.told(world, ("sign", "F", N, 7), values, 0, True)
                self.told(world, ("sign", "F", N, 8), values, 0, False)
                self.told(world, ("alike", "A", N, "A", M), values, 0, (n - m) % base == 0)
                self.by_hand(world, ("alike", "T", N, "LAS", (5, (("m", 2),))), values, 0)

    def test_not_and_or(self):
        for base in BASES:
            world = world_of(base)
            for one, other in itertools.product((True, False), repeat=2):
                f, g = TRUE if one else UNTRUE, TRUE if other else UNTRUE
                self.told(world, ("not", f), {}, 0, not one)
                self.told(world, ("not", ("not", f)), {}, 0, one)
                self.told(world, ("and", f, g), {}, 0, one and other)
                self.told(world, ("or", f, g), {}, 0, one or other)
                self.told(world, ("or", ("not", f), ("and", f, g)), {}, 0, not one or other)

    def test_some_and_each_up_to_most(self):
        for base in BASES:
            world = world_of(base)
            for most in range(12):
                for number in range(13):
                    self.told(world, ("some", "n", is_(number)), {}, most, number < most)
                    self.told(world, ("each", "n", ("not", is_(number))), {}, most, number >= most)
                    self.told(world, ("each", "n", ("less", N, (number, ()))), {}, most, most <= number)

    def test_most_nought(self):
        for base in BASES:
            world = world_of(base)
            for inside in (TRUE, UNTRUE, is_(0), ("sign", "A", N, 0)):
                self.told(world, ("some", "n", inside), {"n": 0}, 0, False)
                self.told(world, ("each", "n", inside), {"n": 0}, 0, True)
                self.told(world, ("not", ("some", "n", inside)), {}, 0, True)
                self.told(world, ("some", "n", ("each", "m", inside)), {}, 0, False)
                self.told(world, ("each", "n", ("some", "m", inside)), {}, 0, True)
            self.told(world, ("each", "n", UNTRUE), {}, 1, False)
            self.told(world, ("some", "n", ("each", "m", UNTRUE)), {}, 1, False)

    def test_a_name_that_is_not_inside(self):
        world = world_of(2)
        for most in (1, 4):
            for word in ("some", "each"):
                self.told(world, (word, "z", is_(3)), {"n": 3}, most, True)
                self.told(world, (word, "z", is_(3)), {"n": 2}, most, False)

    def test_outside_numbers_count_nothing_inside(self):
        world = world_of(2)
        for outside in (0, 3, 100, 10 ** 50):
            self.told(world, ("some", "n", is_(3)), {"n": outside}, 4, True)
            self.told(world, ("some", "n", is_(4)), {"n": 4}, 4, False)
            self.told(world, ("each", "n", ("less", N, (4, ()))), {"n": outside}, 4, True)

    def test_bound_again_inside(self):
        world = world_of(2)
        for word in ("some", "each"):
            for most in (1, 3, 6):
                # The inner n is not the outer one: behind the inner part the outer one is as it was.
                twice = ("some", "n", ("and", is_(0), (word, "n", ("less", N, (most, ())))))
                self.told(world, twice, {"n": 99}, most, True)
                self.told(world, ("some", "n", ("and", ("some", "n", is_(most - 1)), is_(0))), {}, most, True)
                self.told(world, ("and", ("some", "n", is_(0)), is_(9)), {"n": 9}, most, True)
                self.told(world, (word, "n", ("some", "n", is_(most - 1))), {}, most, True)
                self.told(world, (word, "n", ("each", "n", is_(0))), {}, most, most == 1)

    def test_bound_in_one_part_and_free_in_the_other(self):
        world = world_of(3)
        for n in (0, 2, 7, 10 ** 40):
            for joins in ("and", "or"):
                for word in ("some", "each"):
                    bound = (word, "n", ("less", N, (2, ())))
                    for saying in ((joins, bound, is_(7)), (joins, is_(7), bound)):
                        for most in (0, 1, 2, 3):
                            self.by_hand(world, saying, {"n": n}, most)

    def test_three_one_within_another(self):
        sums = ("same", (0, (("a", 2), ("b", 3))), (1, (("c", 5),)))
        for base in BASES:
            world = random_world(random.Random(base), base)
            for words in itertools.product(("some", "each"), repeat=3):
                for inside in (sums, ("not", sums), ("alike", "A", (0, (("a", 1), ("b", 1))), "B", (0, (("c", 1),))),
                               ("or", ("less", (0, (("a", 1),)), (0, (("c", 1),))), ("sign", "A", (0, (("b", 2),)), 1))):
                    saying = (words[0], "a", (words[1], "b", (words[2], "c", inside)))
                    for most in (0, 1, 2, 5):
                        self.by_hand(world, saying, {}, most)
        self.told(world_of(2), ("some", "a", ("some", "b", ("some", "c", ("same", (0, (("a", 1), ("b", 1), ("c", 1))),
                                                                         (87, ()))))), {}, 30, True)
        self.told(world_of(2), ("some", "a", ("some", "b", ("some", "c", ("same", (0, (("a", 1), ("b", 1), ("c", 1))),
                                                                         (88, ()))))), {}, 30, False)

    def test_each_word_at_great_numbers_whatever_most_is(self):
        for base in BASES:
            chance = random.Random(base)
            world = random_world(chance, base, 30)
            for numbers in some_numbers(chance, base, 3):
                values = dict(zip(NAMES + ("more",), numbers + (5,)))
                plain = [random_atom(chance, NAMES, ROWS) for again in range(4)]
                plain += [("not", plain[0]), ("and", plain[1], plain[2]), ("or", plain[2], ("not", plain[3]))]
                for saying in plain:
                    truth = holds_by_hand(world, saying, values, 0)
                    for most in (0, 1, 30):
                        self.told(world, saying, values, most, truth)

    def test_near_to_where_the_terms_are_the_same(self):
        for base in BASES:
            for number in (base ** 40, base ** 130 - 1, base ** 3000 + 5):
                for beside in (-1, 0, 1):
                    values = {"n": number, "m": 3 * number + beside}
                    self.told(world_of(base), ("same", (1, (("n", 3),)), (1, (("m", 1),))), values, 0, beside == 0)
                    self.told(world_of(base), ("less", (1, (("n", 3),)), (1, (("m", 1),))), values, 0, beside == 1)

    def test_thousands_of_figures(self):
        for base in BASES:
            for size in (3000, 4001):
                values = {"n": base ** size + 1, "m": (base - 1) * base ** size}
                for word_saying in (("sign", "T", N, 2), ("alike", "T", N, "LAS", M), ("less", N, M)):
                    self.by_hand(world_of(base), word_saying, values, 3)

    def test_some_and_each_beside_great_numbers(self):
        for base in BASES:
            chance = random.Random(base)
            world = random_world(chance, base)
            for numbers in some_numbers(chance, base, 1):
                for word in ("some", "each"):
                    inside = random_atom(chance, ("m", "n"), ROWS)
                    self.by_hand(world, (word, "m", ("or", inside, ("less", M, N))), {"m": 8, "n": numbers[0]}, 6)

    def test_nested_sayings_by_the_words_of_the_point(self):
        told = {True: 0, False: 0}
        for base in BASES:
            chance = random.Random(base)
            for again in range(250):
                world = random_world(chance, base)
                saying = random_saying(chance, chance.randrange(7), chance.randrange(4), NAMES, ROWS)
                values = {name: chance.randrange(base ** chance.choice((1, 3, 40))) for name in NAMES}
                most = chance.randrange(6)
                self.by_hand(world, saying, values, most)
                told[holds_plainly(world, saying, values, most)] += 1
        self.assertGreater(min(told.values()), 150)

    def test_every_word_alone_reaches_both_truths(self):
        chance = random.Random(5)
        world = random_world(chance, 2)
        for word in ATOM_WORDS:
            seen = set()
            for again in range(400):
                saying = random_atom(chance, NAMES, ROWS)
                if saying[0] == word:
                    seen.add(holds_plainly(world, saying, dict(zip(NAMES, (1, 2, 3))), 0))
            self.assertEqual(seen - {True}, {False}, word)

    def test_forty_parts_and_deep_ones(self):
        world = world_of(2)
        for deep in (12, 40, 700):
            saying = deep_saying(says("n"), deep)
            self.assertIn(holds_plainly(world, saying, {"n": 1, "x": 2}, 1), (True, False))
        noted = is_(5)
        for deep in range(2000):
            noted = ("not", noted)
        self.told(world, noted, {"n": 5}, 0, True)
        self.told(world, noted, {"n": 4}, 0, False)


if __name__ == "__main__":
    unittest.main()
