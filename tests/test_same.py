"""Points 2, 20 and 26: two sayings compared, alike with a table of pairs of rooms, or the first tuple where they part."""

import itertools
import random
import unittest

from figurejudge.errors import TooMany
from figurejudge.figures import is_ahead
from figurejudge.maker import made_of
from figurejudge.sayings import free_names
from figurejudge.same import compared
from samples import BASES, grown_by_hand, holds_by_hand, letters_by_hand, random_world, sum_row, world_of
from test_joined import own
from test_judge import both_at_last, least_with_sum, rings, sum_of, too_wide
from test_maker import plus, small_saying
from test_order import tuples_by_hand

M, N, K = plus(0, m=1), plus(0, n=1), plus(0, k=1)
NONE, ONE = (0, ()), (1, ())
YES, NO = ("same", NONE, NONE), ("same", NONE, ONE)


def table_by_hand(world, one, other):
    """All pairs of rooms that come up by the letters of the names of both."""
    base = world[0]
    machines = [made_of(world, one), made_of(world, other)]
    names = tuple(sorted(set(machines[0][0]) | set(machines[1][0])))

    def onward(pair, letter):
        return tuple(machine[2][room][letters_by_hand(base, len(machine[0])).index(own(names, letter, machine[0]))]
                     for machine, room in zip(machines, pair))

    return sorted(grown_by_hand((0, 0), letters_by_hand(base, len(names)), onward)[0])


def names_of(one, other):
    return tuple(sorted(set(free_names(one)) | set(free_names(other))))


class AlikeTest(unittest.TestCase):
    def alike(self, world, one, other):
        for left, right in ((one, other), (other, one), (one, one)):
            told = compared(world, left, right)
            self.assertEqual(told, ("alike", table_by_hand(world, left, right)), (left, right))
            self.assertIs(type(told), tuple)
            self.assertIs(type(told[1]), list)
            machines = made_of(world, left), made_of(world, right)
            self.assertEqual(len(set(told[1])), len(told[1]))
            self.assertTrue(all(machines[0][1][pair[0]] == machines[1][1][pair[1]] for pair in told[1]))
        self.assertEqual(compared(world, other, one)[1], sorted((b, a) for a, b in compared(world, one, other)[1]))

    def test_written_out(self):
        little = ("less", N, ONE)
        self.assertEqual(compared((2, {}), little, ("same", N, NONE)), ("alike", [(0, 0), (1, 1)]))
        self.assertEqual(compared((2, {}), YES, ("less", NONE, ONE)), ("alike", [(0, 0)]))
        # What the one says of m the other one says of no name at all; its noughts come up beside one room alone.
        self.assertEqual(compared((2, {}), ("less", M, plus(1, m=1)), YES), ("alike", [(0, 0)]))

    def test_told_otherwise(self):
        for base in BASES:
            world = world_of(base)
            for one, other in (
                (("less", M, N), ("not", ("less", N, plus(1, m=1)))),
                (("less", M, N), ("some", "k", ("same", plus(1, k=1, m=1), N))),
                (("same", M, N), ("and", ("not", ("less", M, N)), ("not", ("less", N, M)))),
                (("same", plus(3, m=2), plus(1, n=4)), ("same", plus(1, m=1), plus(0, n=2))),
                (("sign", "T", N, 1), ("sign", "T", plus(0, n=base), 1)),
                (("alike", "A", N, "T", M), ("alike", "T", M, "A", N)),
                (("some", "k", ("same", N, plus(0, k=2))), ("each", "k", ("not", ("same", N, plus(1, k=2))))),
                (("same", plus(0, k=1, m=1), N), ("and", ("same", N, plus(0, k=1, m=1)), ("not", ("less", N, M)))),
            ):
                self.alike(world, one, other)

    def test_random_ones_with_themselves_told_otherwise(self):
        for base in BASES:
            chance = random.Random(base)
            for again in range(12):
                world = random_world(chance, base, 3)
                f, g = small_saying(chance, 2, 1), ("sign", "A", plus(chance.randrange(4), m=1), 1)
                self.alike(world, ("or", f, g), ("not", ("and", ("not", g), ("not", f))))
                self.alike(world, ("some", "n", f), ("not", ("each", "n", ("not", f))))

    def test_names_of_the_one_alone(self):
        for base in BASES:
            world = world_of(base)
            # Names that change nothing: the one has them and the other has not, or has others.
            idle = {name: ("not", ("less", plus(0, **{name: 1}), plus(0, **{name: 1}))) for name in ("k", "m", "n")}
            for one, other in (
                (("and", ("less", N, (5, ())), idle["m"]), ("less", N, (5, ()))),
                (("and", ("less", N, (5, ())), idle["m"]), ("and", ("less", N, (5, ())), idle["k"])),
                (idle["m"], YES), (idle["m"], idle["n"]), (("and", idle["m"], idle["k"]), idle["n"]),
                (("and", NO, idle["m"]), NO), (("and", ("sign", "T", M, 1), idle["n"]), ("sign", "T", M, 1)),
                (("and", ("same", M, N), idle["k"]), ("same", M, N)),
                (("sign", "F", M, 7), ("sign", "F", plus(0, k=1, n=2), 7)),
            ):
                self.alike(world, one, other)

    def test_of_no_names(self):
        for base in BASES:
            for one, other in itertools.product((YES, ("not", NO), ("each", "n", ("some", "m", ("less", N, M)))), repeat=2):
                self.assertEqual(compared((base, {}), one, other), ("alike", [(0, 0)]))
                self.assertEqual(compared((base, {}), ("not", one), ("not", other)), ("alike", [(0, 0)]))

    def test_great_tables(self):
        for base in BASES:
            told = compared(rings(base), both_at_last("n"), ("not", ("not", both_at_last("n"))))
            self.assertEqual(told, ("alike", [(room, room) for room in range(299)]))


class PartTest(unittest.TestCase):
    def part(self, world, one, other, known):
        for left, right in ((one, other), (other, one)):
            self.assertEqual(compared(world, left, right), ("part", known), (left, right))

    def test_written_out(self):
        for base in BASES:
            world = world_of(base)
            self.part(world, ("less", N, (5, ())), ("less", N, (6, ())), (5,))
            self.part(world, ("less", M, N), ("less", N, M), (0, 1))
            self.part(world, ("less", M, N), ("not", ("less", N, M)), (0, 0))
            self.part(world, ("less", N, (50, ())), ("less", M, (1, ())), (1, 0))
            self.part(world, ("less", N, ONE), YES, (1,))
            self.part(world, ("same", plus(0, m=1, k=1), N), ("same", M, N), (1, 0, 0))
            self.part(world, ("sign", "T", N, 1), ("sign", "A", N, 1),
                      (next(n for n in range(99) if (sum_of(base, n) % 3 == 1) != (n % base == 1)),))

    def test_of_no_names(self):
        for base in BASES:
            for one, other in ((YES, NO), (("some", "n", ("less", N, N)), ("each", "n", ("less", N, plus(1, n=1))))):
                self.part((base, {}), one, other, ())

    def test_by_trying_all_tuples(self):
        for base in BASES:
            chance = random.Random(base)
            seen = set()
            for again in range(60):
                world = random_world(chance, base, 3)
                pool = chance.choice((("n",), ("m", "n"), ("k", "m", "n")))
                some = [small_saying(chance, 0, 0, chance.sample(pool, chance.randint(1, min(2, len(pool))))) for f in range(2)]
                row = ("sign", "A", plus(chance.randrange(4), **{pool[-1]: 1}), 1)
                one, other = chance.choice(((some[0], some[1]), (row, some[0]), (("or", row, some[0]), ("and", some[1], row))))
                names = names_of(one, other)
                places = {0: 1, 1: 4, 2: 3 if base == 2 else 2, 3: 2 if base == 2 else 1}[len(names)]
                truth = lambda saying, numbers: holds_by_hand(world, saying, dict(zip(names, numbers)), 0)
                parted = [numbers for numbers in tuples_by_hand(base, len(names), places)
                          if truth(one, numbers) != truth(other, numbers)]
                told = compared(world, one, other)
                seen.add((told[0], len(names)))
                if parted:
                    self.part(world, one, other, parted[0])
                elif told[0] == "part":
                    self.assertNotEqual(truth(one, told[1]), truth(other, told[1]))
                    self.assertTrue(is_ahead(base, (base ** places - 1,) * len(names), told[1]))
                else:
                    self.assertEqual(told[1], table_by_hand(world, one, other))
            self.assertGreater(len(seen), 3)

    def test_great_tuples(self):
        for base in BASES:
            great = least_with_sum(base, 298)
            world = rings(base)
            self.part(world, both_at_last("n"), ("less", N, N), (great,))
            self.part(world, both_at_last("n"), NO, (great,))
            self.part(world, both_at_last("n"), ("less", M, M), (0, great))
            self.part(world, both_at_last("m"), ("less", N, N), (great, 0))
            self.part(world, both_at_last("m"), ("same", plus(1, k=1, n=1), plus(0, k=1, n=1)), (0, great, 0))

    def test_some_thousands_of_pairs(self):
        for base in BASES:
            # 13 times 23 rooms beside 17 times 14: the sum of the figures parts them where the lesser one comes round.
            world = (base, {"A": sum_row(base, 13), "B": sum_row(base, 23), "C": sum_row(base, 17), "D": sum_row(base, 14)})
            other = ("and", ("sign", "C", N, 16), ("sign", "D", N, 13))
            self.part(world, both_at_last("n"), other, (least_with_sum(base, 237),))
            # Of two names, all pairs of four rests come up at once.
            one = ("and", ("sign", "A", M, 12), ("sign", "B", N, 22))
            other = ("and", ("sign", "C", M, 16), ("sign", "D", N, 13))
            told = compared(world, one, other)
            self.assertEqual(told[0], "part")
            self.assertEqual(told, compared(world, other, one))
            known = [(least_with_sum(base, 12), least_with_sum(base, 22)), (least_with_sum(base, 16), least_with_sum(base, 13))]
            first = known[0] if is_ahead(base, known[0], known[1]) else known[1]
            self.assertIn(told[1], known)
            self.assertEqual(told[1], first)


class TooManyTest(unittest.TestCase):
    def refused(self, world, one, other, place):
        with self.assertRaises(TooMany) as caught:
            compared(world, one, other)
        self.assertEqual(caught.exception.place, place)

    def test_the_first_saying_ahead(self):
        for base in BASES:
            world, wide = too_wide(base)
            self.refused(world, wide, YES, ())
            self.refused(world, YES, wide, ())
            self.refused(world, ("not", wide), wide, (0,))
            self.refused(world, wide, ("not", wide), ())
            self.refused(world, ("and", YES, ("not", wide)), ("not", wide), (1, 0))
            self.refused(world, YES, ("or", ("not", wide), wide), (0, 0))

    def test_three_hundred_are_let(self):
        for base in BASES:
            world = (base, {"A": sum_row(base, 15), "B": sum_row(base, 20)})
            saying = ("alike", "A", N, "B", M)
            self.assertEqual(compared(world, saying, ("not", ("not", saying)))[0], "alike")


if __name__ == "__main__":
    unittest.main()
