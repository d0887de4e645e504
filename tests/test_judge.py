"""Points 2 and 22 to 24: sayings judged, with the paper or the least number, and the first tuples that hold or don't."""

import itertools
import random
import unittest

from figurejudge.errors import TooMany
from figurejudge.figures import is_ahead
from figurejudge.judge import counter_of, judged, judged_each, witness_of
from figurejudge.maker import made_of
from figurejudge.papers import paper_holds, paper_of
from figurejudge.sayings import free_names
from samples import BASES, holds_by_hand, random_world, sum_row, world_of
from test_maker import bounded, plus, small_saying
from test_order import tuples_by_hand

M, N, K = plus(0, m=1), plus(0, n=1), plus(0, k=1)
NONE, ONE = (0, ()), (1, ())
YES, NO = ("same", NONE, NONE), ("same", NONE, ONE)


def rings(base):
    """A world of two sums of figures, of which both come round together but late."""
    return base, {"A": sum_row(base, 13), "B": sum_row(base, 23)}


def both_at_last(name):
    """Both sums are at their greatest rest: the sum of the figures is 298, or more by 299s."""
    at = plus(0, **{name: 1})
    return "and", ("sign", "A", at, 12), ("sign", "B", at, 22)


def least_with_sum(base, total):
    places, rest = divmod(total, base - 1)
    return rest * base ** places + base ** places - 1


def too_wide(base):
    """A world in which 301 rooms come up for what is said."""
    return (base, {"A": sum_row(base, 7), "B": sum_row(base, 43)}), ("alike", "A", N, "B", M)


class JudgedTest(unittest.TestCase):
    def judge(self, world, saying, truth):
        self.assertIs(judged(world, saying), truth, saying)
        self.assertIs(judged(world, ("not", saying)), not truth, saying)

    def test_plain_ones(self):
        for base in BASES:
            world = world_of(base)
            self.judge(world, ("same", (7, ()), (7, ())), True)
            self.judge(world, ("same", (7, ()), (8, ())), False)
            self.judge(world, ("less", (7, ()), (8, ())), True)
            self.judge(world, ("less", (8, ()), (8, ())), False)
            self.judge(world, ("sign", "A", (base + 1, ()), 1), True)
            self.judge(world, ("sign", "A", (base + 1, ()), 0), False)
            self.judge(world, ("alike", "A", (base, ()), "T", (3, ())), sum_of(base, 3) % 3 == 0)
            self.judge(world, ("alike", "A", (1, ()), "T", (1, ())), True)
            self.judge(world, ("alike", "A", (1, ()), "F", (1, ())), False)

    def test_not_and_or(self):
        for base in BASES:
            for left, right in itertools.product((YES, NO), repeat=2):
                self.judge((base, {}), ("and", left, right), left == YES and right == YES)
                self.judge((base, {}), ("or", left, right), left == YES or right == YES)
            self.judge((base, {}), ("not", NO), True)

    def test_some_and_each_without_end(self):
        for base in BASES:
            world = world_of(base)
            for saying, truth in (
                (("each", "m", ("some", "n", ("less", M, N))), True),
                (("some", "n", ("each", "m", ("less", M, N))), False),
                (("some", "n", ("each", "m", ("not", ("less", M, N)))), True),
                (("each", "n", ("some", "m", ("or", ("same", N, plus(0, m=2)), ("same", N, plus(1, m=2))))), True),
                (("each", "n", ("some", "m", ("same", N, plus(0, m=2)))), False),
                (("some", "n", ("and", ("less", (90, ()), N), ("sign", "A", N, base - 1))), True),
                (("some", "n", ("sign", "A", plus(0, n=base), 1)), False),
                (("each", "n", ("alike", "T", N, "T", plus(0, n=base))), True),
                (("each", "n", ("alike", "T", N, "T", plus(1, n=1))), False),
                (("each", "m", ("each", "n", ("or", ("less", M, N), ("or", ("same", M, N), ("less", N, M))))), True),
                (("each", "m", ("each", "n", ("or", ("less", M, N), ("less", N, M)))), False),
                (("some", "n", YES), True), (("some", "n", NO), False), (("each", "n", YES), True), (("each", "n", NO), False),
            ):
                self.judge(world, saying, truth)

    def test_sayings_of_few_numbers(self):
        for base in BASES:
            chance = random.Random(base)
            seen = set()
            for again in range(60):
                world = random_world(chance, base, 3)
                words = [chance.choice(("some", "each")) for name in range(2)]
                most = [chance.randint(1, 4) for name in range(2)]
                inside = chance.choice((small_saying(chance, 0, 0), ("sign", "A", plus(1, m=1, n=1), 1),
                                        ("alike", "A", M, "B", plus(0, n=2))))
                saying = bounded(words[0], "m", most[0], bounded(words[1], "n", most[1], inside))
                values = [[{"m": m, "n": n} for n in range(most[1])] for m in range(most[0])]
                ask = {"some": any, "each": all}
                known = ask[words[0]](ask[words[1]](holds_by_hand(world, inside, one, 0) for one in row) for row in values)
                self.assertIs(judged(world, saying), known)
                seen.add((words[0], known))
            self.assertEqual(len(seen), 4)

    def test_it_may_hang_on_great_numbers(self):
        for base in BASES:
            self.judge(rings(base), ("some", "n", both_at_last("n")), True)
            self.judge(rings(base), ("each", "n", ("not", both_at_last("n"))), False)

    def test_too_many_rooms(self):
        for base in BASES:
            world, wide = too_wide(base)
            with self.assertRaises(TooMany) as caught:
                judged(world, ("some", "m", ("or", YES, ("each", "n", wide))))
            self.assertEqual(caught.exception.place, (0, 1, 0))
            let = ((base, {"A": sum_row(base, 15), "B": sum_row(base, 20)}), ("alike", "A", N, "B", M))
            self.judge(let[0], ("some", "m", ("some", "n", let[1])), True)


def sum_of(base, number):
    total = 0
    while number:
        number, figure = divmod(number, base)
        total += figure
    return total


class JudgedEachTest(unittest.TestCase):
    def true_of(self, world, inside, name="n"):
        told = judged_each(world, ("each", name, inside))
        self.assertIs(type(told), tuple)
        self.assertEqual(told[0], "true")
        self.assertIs(type(told[1]), list)
        self.assertIs(judged(world, ("each", name, inside)), True)
        return told[1]

    def papered(self, world, inside, name="n"):
        paper = self.true_of(world, inside, name)
        self.assertEqual(paper, paper_of(world, inside))
        self.assertIs(paper_holds(world, inside, paper), True)
        machine = made_of(world, inside)
        self.assertTrue(paper)
        self.assertTrue(all(machine[1][row[0]] for row in paper))

    def untrue_of(self, world, inside, least, name="n"):
        self.assertEqual(judged_each(world, ("each", name, inside)), ("untrue", least))
        self.assertIs(judged(world, ("each", name, inside)), False)

    def test_true_ones_with_a_paper(self):
        for base in BASES:
            world = world_of(base)
            for inside in (
                ("not", ("less", N, N)), ("not", ("same", N, plus(3, n=1))), ("not", ("sign", "F", N, 3)),
                ("and", ("less", N, plus(1, n=1)), ("sign", "F", plus(2, n=3), 7)),
                ("and", ("alike", "T", N, "T", plus(0, n=base)), ("not", ("less", N, N))),
                ("or", ("less", N, (5, ())), ("less", (4, ()), N)),
                ("or", ("sign", "A", N, 0), ("not", ("sign", "A", N, 0))),
                ("some", "m", ("less", N, M)), ("some", "m", ("same", plus(0, n=2), M)),
                ("some", "m", ("or", ("same", N, plus(0, m=2)), ("same", N, plus(1, m=2)))),
                ("each", "m", ("or", ("less", M, N), ("or", ("same", M, N), ("less", N, M)))),
                ("each", "m", ("not", ("same", plus(1, m=1, n=1), N))),
            ):
                self.papered(world, inside)

    def test_true_ones_without_a_paper(self):
        for base in BASES:
            world = world_of(base)
            for inside in (("same", N, N), ("same", plus(1, n=2), plus(1, n=2)), ("less", N, plus(1, n=1)), YES,
                           ("less", NONE, ONE), ("sign", "F", N, 7), ("sign", "A", plus(1, n=base), 1),
                           ("alike", "T", N, "T", plus(0, n=base)), ("alike", "F", N, "F", plus(5, n=2))):
                self.assertEqual(self.true_of(world, inside), [])

    def test_untrue_ones_by_trying_all_numbers(self):
        for base in BASES:
            chance = random.Random(base)
            seen = set()
            for again in range(150):
                world = random_world(chance, base, 4)
                inside = chance.choice((
                    small_saying(chance, 1, 0, ("n",)), ("not", small_saying(chance, 0, 0, ("n",))),
                    ("sign", "A", plus(chance.randrange(5), n=1), chance.randrange(2)),
                    ("alike", "A", plus(0, n=2), "B", plus(1, n=1)),
                    ("or", ("sign", "A", N, 1), ("less", N, (chance.randrange(20), ()))),
                    ("and", ("sign", "A", N, 1), small_saying(chance, 0, 0, ("n",))),
                    bounded(chance.choice(("some", "each")), "m", chance.randint(1, 3),
                            ("less", plus(0, m=chance.randint(1, 9)), plus(chance.randrange(9), n=1)))))
                told = judged_each(world, ("each", "n", inside))
                least = next((number for number in range(300) if not holds_by_hand(world, inside, {"n": number}, 5)), None)
                if told[0] == "untrue" and told[1] < 300 or least is not None:
                    self.assertEqual(told, ("untrue", least))
                    self.assertIs(type(told[1]), int)
                    seen.add(inside[0])
            self.assertGreater(len(seen), 6)

    def test_the_least_number_may_be_great(self):
        for base in BASES:
            self.untrue_of(rings(base), ("not", both_at_last("n")), least_with_sum(base, 298))
            self.untrue_of(world_of(base), ("less", N, (99, ())), 99)
            self.untrue_of(world_of(base), ("some", "m", ("same", N, plus(0, m=2))), 1)
            self.untrue_of(world_of(base), ("each", "m", ("not", ("same", N, plus(97, m=9)))), 97)

    def test_without_the_name(self):
        for base in BASES:
            world = world_of(base)
            self.assertEqual(self.true_of(world, ("less", (3, ()), (4, ()))), [])
            self.untrue_of(world, ("less", (4, ()), (4, ())), 0)
            self.papered(world, ("not", NO))
            self.papered(world, ("some", "m", ("same", M, (7, ()))))
            self.untrue_of(world, ("and", YES, NO), 0)
            self.untrue_of(world, ("each", "m", ("less", M, (9, ()))), 0)

    def test_the_name_bound_again(self):
        for base in BASES:
            world = world_of(base)
            self.papered(world, ("some", "n", ("same", N, (5, ()))))
            self.papered(world, ("each", "n", ("less", N, plus(1, n=1))))
            self.untrue_of(world, ("each", "n", ("less", N, (5, ()))), 0)
            self.untrue_of(world, ("and", ("less", N, (5, ())), ("some", "n", ("same", N, (9, ())))), 5)
            self.papered(world, ("or", ("less", N, plus(1, n=1)), ("some", "n", NO)))

    def test_any_name(self):
        for base in BASES:
            for name in ("a", "zzz", "mn"):
                self.untrue_of((base, {}), ("not", ("same", plus(0, **{name: 1}), (17, ()))), 17, name)
                self.papered((base, {}), ("not", ("less", plus(0, **{name: 1}), NONE)), name)

    def test_too_many_rooms(self):
        for base in BASES:
            world, wide = too_wide(base)
            for inside in (("some", "m", wide), ("not", ("some", "m", wide)), ("some", "m", ("or", YES, wide))):
                with self.assertRaises(TooMany):
                    judged_each(world, ("each", "n", inside))


class FirstOnesTest(unittest.TestCase):
    def firsts(self, world, saying, places):
        """Both by trying all tuples, where there is one of so few figures."""
        names = free_names(saying)
        tuples = tuples_by_hand(world[0], len(names), places)
        told = {True: witness_of(world, saying), False: counter_of(world, saying)}
        for truth in (True, False):
            known = [one for one in tuples if holds_by_hand(world, saying, dict(zip(names, one)), 0) is truth][:1]
            if known:
                self.assertEqual(told[truth], known[0])
            elif told[truth] is not None:
                self.assertTrue(is_ahead(world[0], tuples[-1], told[truth]))
                self.assertIs(holds_by_hand(world, saying, dict(zip(names, told[truth])), 0), truth)
        return [truth for truth in (True, False) if told[truth] is None]

    def test_without_free_names(self):
        for base in BASES:
            for saying, truth in ((YES, True), (NO, False), (("some", "n", ("less", (50, ()), N)), True),
                                  (("each", "n", ("less", (50, ()), N)), False)):
                self.assertEqual(witness_of((base, {}), saying), () if truth else None)
                self.assertEqual(counter_of((base, {}), saying), None if truth else ())

    def test_by_trying_all_tuples(self):
        for base in BASES:
            chance = random.Random(base)
            for names in (("n",), ("m", "n"), ("k", "m", "n")):
                places = {1: 5, 2: 3 if base < 4 else 2, 3: 2 if base == 2 else 1}[len(names)]
                for again in range(25):
                    world = random_world(chance, base, 3)
                    row = ("sign", "A", plus(chance.randrange(4), **{names[0]: 1}), 1)
                    plain = small_saying(chance, 0, 0, names)
                    self.firsts(world, chance.choice((plain, ("and", plain, row), ("or", row, plain), ("not", plain))), places)

    def test_none_where_there_is_none(self):
        for base in BASES:
            world = world_of(base)
            self.assertEqual(self.firsts(world, ("less", N, N), 3), [True])
            self.assertEqual(self.firsts(world, ("same", plus(0, m=2), plus(1, n=2)), 2), [True])
            self.assertEqual(self.firsts(world, ("less", plus(0, k=1, m=1), plus(1, k=1, m=1, n=1)), 1), [False])
            self.assertEqual(self.firsts(world, ("sign", "F", plus(0, m=1, n=3), 7), 2), [False])

    def test_the_order_is_that_of_letters(self):
        for base in BASES:
            # Together base + 1: of all such the one whose greatest letter is least.
            saying = ("same", plus(0, m=1, n=1), (base + 1, ()))
            self.assertEqual(witness_of((base, {}), saying), (2, base - 1) if base > 2 else (0, 3))
            self.assertEqual(counter_of((base, {}), ("not", saying)), witness_of((base, {}), saying))
            less = ("and", ("less", N, M), ("less", K, N))
            self.assertEqual(witness_of((base, {}), less), (0, 2, 1))
            self.assertEqual(counter_of((base, {}), less), (0, 0, 0))

    def test_great_ones(self):
        for base in BASES:
            great = least_with_sum(base, 298)
            self.assertEqual(witness_of(rings(base), both_at_last("n")), (great,))
            self.assertEqual(counter_of(rings(base), ("not", both_at_last("n"))), (great,))

    def test_too_many_rooms(self):
        for base in BASES:
            world, wide = too_wide(base)
            for function in (witness_of, counter_of):
                for saying, place in ((wide, ()), (("not", wide), (0,)), (("or", YES, ("and", wide, wide)), (1, 0))):
                    with self.assertRaises(TooMany) as caught:
                        function(world, saying)
                    self.assertEqual(caught.exception.place, place)


if __name__ == "__main__":
    unittest.main()
