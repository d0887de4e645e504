"""Points 2 and 20: the machine of a saying, made from its parts' machines, and refused where too many rooms come up."""

import itertools
import random
import unittest

from figurejudge.errors import TooMany
from figurejudge.joined import turned_no
from figurejudge.machines import says_yes
from figurejudge.maker import made_of
from figurejudge.sayings import free_names
from figurejudge.thin import parting_of
from samples import (BASES, deep_saying, holds_by_hand, random_atom, random_saying, random_world, says, some_numbers,
                     sum_row, term, wide_term, world_of)
from test_atoms import balance_by_hand, rows_by_hand
from test_hidden import sets_by_hand
from test_joined import pairs_by_hand
from test_sayings import free_by_hand, places_by_hand
from test_thin import in_order, thinned_by_hand

M, N, K = (0, (("m", 1),)), (0, (("n", 1),)), (0, (("k", 1),))
ROWS = ("A", "B")


def plus(number, **times):
    """A term by its names' times."""
    return number, tuple(sorted(times.items()))


def raw_by_hand(world, saying, inner):
    """How many rooms come up at a saying, and its machine ahead of thinning, by points 13 to 17."""
    base, word = world[0], saying[0]
    if word == "not":
        return len(inner[0][1]), turned_no(inner[0])
    if word in ("and", "or"):
        rooms, machine = pairs_by_hand(base, inner[0], inner[1], all if word == "and" else any)
    elif word in ("some", "each"):
        if saying[1] not in inner[0][0]:
            return len(inner[0][1]), inner[0]
        turn = turned_no if word == "each" else tuple
        rooms, machine = sets_by_hand(base, turn(inner[0]), saying[1])
        machine = turn(machine)
    else:
        rooms, machine = (balance_by_hand if word in ("same", "less") else rows_by_hand)(world, saying)
    return len(rooms), machine


def made_by_hand(world, saying):
    """Pairs (place, how many rooms come up there) in the order of the making, and the machines by places."""
    counts, machines = [], {}
    for place, part in places_by_hand(saying):
        inner = [machines[place + (number,)] for number in (0, 1) if place + (number,) in machines]
        many, machine = raw_by_hand(world, part, inner)
        counts.append((place, many))
        machines[place] = thinned_by_hand(machine)
    return counts, machines


def small_saying(chance, parts, deep, names=("m", "n")):
    """A saying of plain ones with few rooms."""
    if deep == 0 or parts <= 0:
        return ("same", "less")[chance.randrange(2)], wide_small(chance, names), wide_small(chance, names)
    word = chance.choice(("not", "and", "or", "some", "each"))
    if word == "not":
        return word, small_saying(chance, parts - 1, deep - 1, names)
    if word in ("some", "each"):
        return word, chance.choice(names), small_saying(chance, parts - 1, deep - 1, names)
    return (word, small_saying(chance, parts // 2, deep - 1, names), small_saying(chance, parts // 2, deep - 1, names))


def wide_small(chance, names):
    own = sorted(chance.sample(names, chance.randrange(len(names) + 1)))
    return chance.randrange(5), tuple((name, chance.randint(1, 2)) for name in own)


def bounded(word, name, most, inside):
    """A some or each of the numbers from 0 to most - 1 alone."""
    own = ("less", (0, ((name, 1),)), (most, ()))
    return word, name, ("and", own, inside) if word == "some" else ("or", ("not", own), inside)


class MadeTest(unittest.TestCase):
    def says(self, world, saying, tuples, truth):
        """What the machine says of tuples, truth being a function of their numbers."""
        machine = made_of(world, saying)
        self.assertEqual(machine[0], free_names(saying))
        for numbers in tuples:
            self.assertIs(says_yes(world[0], machine, numbers), bool(truth(*numbers)), (saying, numbers))

    def least(self, machine):
        self.assertTrue(in_order(machine))
        for one, other in itertools.combinations(range(len(machine[1])), 2):
            self.assertIsNotNone(parting_of(machine, one, other))

    def test_written_out(self):
        # n is 1 more than some twice: the odd ones.
        odd = ("some", "m", ("same", N, plus(1, m=2)))
        self.assertEqual(made_of((2, {}), odd), (("n",), (False, False, True), ((1, 2), (1, 1), (2, 2))))
        self.assertEqual(made_of((2, {}), ("each", "n", ("less", N, N))), ((), (False,), ((0,),)))
        self.assertEqual(made_of((3, {}), ("less", N, (1, ()))), (("n",), (True, False), ((0, 1, 1), (1, 1, 1))))

    def test_as_the_point_makes_it(self):
        for base in BASES:
            chance = random.Random(base)
            for again in range(60):
                saying = small_saying(chance, 7, 3)
                counts, machines = made_by_hand((base, {}), saying)
                told = made_of((base, {}), saying)
                self.assertEqual(told, machines[()])
                self.least(told)

    def test_plain_sayings_of_any_numbers(self):
        for base in BASES:
            chance = random.Random(base)
            for again in range(40):
                world = random_world(chance, base, 5)
                saying = random_atom(chance, ("m", "n"), ROWS)
                names = free_names(saying)
                tuples = some_numbers(chance, base, len(names)) + list(itertools.product(range(4), repeat=len(names)))
                machine = made_of(world, saying, 5000)
                self.least(machine)
                for numbers in tuples:
                    truth = holds_by_hand(world, saying, dict(zip(names, numbers)), 0)
                    self.assertIs(says_yes(base, machine, numbers), truth)

    def test_not_and_or_of_any_numbers(self):
        for base in BASES:
            chance = random.Random(base)
            seen = set()
            for again in range(25):
                world = random_world(chance, base, 4)
                f = ("sign", "A", wide_term(chance, ("m", "n"), 9), chance.randrange(3))
                g = (chance.choice(("less", "same")), wide_term(chance, ("k", "n"), 9), wide_term(chance, ("k", "n"), 9))
                for saying in (("not", f), ("and", f, g), ("or", f, g), ("and", ("not", g), ("or", g, f))):
                    names = free_names(saying)
                    machine = made_of(world, saying, 5000)
                    for numbers in some_numbers(chance, base, len(names)):
                        truth = holds_by_hand(world, saying, dict(zip(names, numbers)), 0)
                        self.assertIs(says_yes(base, machine, numbers), truth)
                        seen.add((saying[0], truth))
            self.assertEqual(len(seen), 6)

    def test_some_and_each_of_few_numbers_beside_any(self):
        for base in BASES:
            chance = random.Random(base)
            seen = set()
            for again in range(25):
                world = random_world(chance, base, 3)
                inside = ("or", ("sign", "A", plus(chance.randrange(5), m=1, n=chance.randint(1, 3)), 1),
                          ("same", plus(1, n=2), plus(0, m=1)))
                most = chance.randint(1, 5)
                saying = bounded(chance.choice(("some", "each")), "n", most, inside)
                machine = made_of(world, saying, 5000)
                for numbers in some_numbers(chance, base, 1):
                    truth = holds_by_hand(world, (saying[0], "n", inside), {"m": numbers[0]}, most)
                    self.assertIs(says_yes(base, machine, numbers), truth)
                    seen.add((saying[0], truth))
            self.assertEqual(len(seen), 4)

    def test_some_and_each_without_end(self):
        for base in BASES:
            world = world_of(base)
            small = list(range(30))
            great = [base ** 40 + beside for beside in range(-3, 4)] + [base ** 130 - 1, base ** 131 + 5]
            ones = [(number,) for number in small + great]
            self.says(world, ("some", "n", ("same", plus(0, n=3), plus(1, m=2))), ones, lambda m: (2 * m + 1) % 3 == 0)
            self.says(world, ("each", "n", ("not", ("same", plus(0, n=3), M))), ones, lambda m: m % 3)
            self.says(world, ("some", "n", ("less", M, N)), ones, lambda m: True)
            self.says(world, ("some", "n", ("less", N, M)), ones, lambda m: m > 0)
            self.says(world, ("each", "n", ("less", N, M)), ones, lambda m: False)
            self.says(world, ("each", "n", ("less", M, plus(1, n=1))), ones, lambda m: m == 0)
            self.says(world, ("each", "n", ("or", ("less", N, M), ("sign", "F", N, 7))), ones, lambda m: True)
            # Between m and twice m there is one that is no multiple of 2: from 2 on.
            between = ("and", ("less", M, N), ("less", N, plus(0, m=2)))
            odd = ("some", "k", ("same", N, plus(1, k=2)))
            self.says(world, ("some", "n", ("and", between, odd)), ones, lambda m: any(
                n % 2 for n in range(m + 1, min(2 * m, m + 4))))
            pairs = list(itertools.product(small[:8], small[:8])) + [(one, other) for one in great for other in great]
            self.says(world, ("some", "n", ("and", ("less", M, N), ("less", N, K))), pairs, lambda k, m: k > m + 1)
            self.says(world, ("each", "n", ("or", ("less", N, K), ("less", M, N))), pairs, lambda k, m: m < k)

    def test_some_and_each_one_within_another(self):
        for base in BASES:
            greater = ("each", "m", ("some", "n", ("less", M, N)))
            greatest = ("some", "n", ("each", "m", ("less", M, N)))
            least = ("some", "n", ("each", "m", ("not", ("less", M, N))))
            for saying, truth in ((greater, True), (greatest, False), (least, True)):
                self.assertEqual(made_of((base, {}), saying), ((), (truth,), ((0,),)))
            # Each number from 8 on is 3a + 5b.
            sums = ("some", "a", ("some", "b", ("same", N, plus(0, a=3, b=5))))
            self.says((base, {}), sums, [(n,) for n in list(range(20)) + [base ** 50 + 1]],
                      lambda n: n not in (1, 2, 4, 7))
            self.assertEqual(made_of((base, {}), ("each", "n", ("or", ("less", N, (8, ())), sums)))[1], (True,))
            self.assertEqual(made_of((base, {}), ("each", "n", ("or", ("less", N, (7, ())), sums)))[1], (False,))

    def test_rows_without_end(self):
        for base in BASES:
            world = world_of(base)
            # At base times n the ones' figure is 0, and at n alone it is not.
            times = ("each", "n", ("sign", "A", plus(0, n=base), 0))
            self.assertEqual(made_of(world, times)[1], (True,))
            self.assertEqual(made_of(world, ("each", "n", ("sign", "A", N, 0)))[1], (False,))
            # A nought behind changes no sum: T at n and at base times n are alike.
            self.assertEqual(made_of(world, ("each", "n", ("alike", "T", N, "T", plus(0, n=base))))[1], (True,))
            self.assertEqual(made_of(world, ("each", "n", ("alike", "T", N, "T", plus(1, n=1))))[1], (False,))

    def test_names_bound_again_inside(self):
        for base in BASES:
            ones = [(number,) for number in (0, 1, 2, 3, 4, 5, 6, base ** 40)]
            five = ("some", "n", ("same", N, (5, ())))
            self.says((base, {}), ("and", ("less", N, (4, ())), five), ones, lambda n: n < 4)
            self.says((base, {}), ("some", "m", ("and", ("same", M, N), ("some", "m", ("same", M, (5, ()))))), ones,
                      lambda n: True)
            self.says((base, {}), ("some", "m", ("and", ("same", plus(0, m=2), N), ("each", "m", ("not", ("less", M, M))))),
                      ones, lambda n: n % 2 == 0)
            self.assertEqual(made_of((base, {}), ("each", "n", five))[1], (True,))
            self.assertEqual(made_of((base, {}), ("some", "n", ("each", "n", ("same", N, (0, ())))))[1], (False,))

    def test_a_name_that_is_not_inside(self):
        for base in BASES:
            for inside in (("less", N, M), ("not", ("same", N, (4, ()))), ("same", (1, ()), (1, ()))):
                for word in ("some", "each"):
                    self.assertEqual(made_of((base, {}), (word, "z", inside)), made_of((base, {}), inside))

    def test_names_are_the_free_ones(self):
        for base in BASES:
            chance = random.Random(base)
            for again in range(40):
                saying = small_saying(chance, 7, 3, ("ab", "b", "z"))
                machine = made_of((base, {}), saying, 5000)
                self.assertEqual(machine[0], tuple(sorted(free_by_hand(saying))))
                self.assertEqual(len(machine[2][0]), base ** len(machine[0]))
            # Names that change nothing are names all the same.
            self.assertEqual(made_of((base, {}), ("same", plus(0, m=2, n=1), plus(1, m=2, n=1))),
                             (("m", "n"), (False,), ((0,) * base ** 2,)))

    def test_sayings_that_say_the_same_have_the_same_machine(self):
        for base in BASES:
            chance = random.Random(base)
            world = (base, {"A": sum_row(base, 2), "B": sum_row(base, 3)})
            for again in range(12):
                f, g = small_saying(chance, 3, 2), ("sign", "A", plus(chance.randrange(4), m=1), 1)
                like = (
                    (f, ("not", ("not", f))), (("and", f, g), ("and", g, f)), (("or", f, g), ("or", g, f)),
                    (("or", f, g), ("not", ("and", ("not", f), ("not", g)))), (("and", f, f), f), (f, ("or", f, f)),
                    (("some", "n", f), ("not", ("each", "n", ("not", f)))),
                    (("some", "n", ("or", f, g)), ("or", ("some", "n", f), ("some", "n", g))),
                    (("each", "m", ("and", f, g)), ("and", ("each", "m", f), ("each", "m", g))),
                    (("some", "n", ("some", "m", f)), ("some", "m", ("some", "n", f))),
                )
                for one, other in like:
                    if free_names(one) == free_names(other):
                        self.assertEqual(made_of(world, one, 5000), made_of(world, other, 5000), (one, other))
            self.assertEqual(made_of(world, ("less", plus(1, m=2), plus(0, n=1))),
                             made_of(world, ("not", ("less", plus(0, n=1), plus(2, m=2)))))
            self.assertEqual(made_of(world, ("less", M, N)), made_of(world, ("some", "k", ("same", plus(1, k=1, m=1), N))))
            self.assertEqual(made_of(world, ("same", plus(3, m=2), plus(1, n=4))),
                             made_of(world, ("same", plus(1, m=1), plus(0, n=2))))

    def test_deep_sayings(self):
        world = world_of(2)
        for deep in (12, 40):
            machine = made_of(world, deep_saying(says("n"), deep))
            self.assertEqual(machine[0], ("n", "x") if deep >= 2 else ("n",))
        noted = ("less", N, M)
        for deep in range(700):
            noted = ("not", noted)
        self.assertEqual(made_of(world, noted), made_of(world, ("less", N, M)))

    def test_nested_sayings_of_few_numbers(self):
        for base in BASES:
            chance = random.Random(base)
            for again in range(30):
                world = random_world(chance, base, 3)
                saying = random_saying(chance, 4, 3, ("m", "n"), ROWS)
                if not any(part[0] in ("some", "each") for place, part in places_by_hand(saying)):
                    names = free_names(saying)
                    try:
                        machine = made_of(world, saying, 3000)
                    except TooMany:
                        continue
                    for numbers in some_numbers(chance, base, len(names)):
                        self.assertIs(says_yes(base, machine, numbers),
                                      holds_by_hand(world, saying, dict(zip(names, numbers)), 0))


class TooManyTest(unittest.TestCase):
    def refused(self, place, *given):
        with self.assertRaises(TooMany) as caught:
            made_of(*given)
        self.assertEqual(caught.exception.place, place)
        self.assertIs(type(caught.exception.place), tuple)

    def at_every_bound(self, world, saying):
        """The first part at which more come up, for each bound there is."""
        counts, machines = made_by_hand(world, saying)
        bounds = {many + beside for place, many in counts for beside in (-1, 0, 1)} | {0, 1}
        for most in sorted(bounds):
            place = next((place for place, many in counts if many > most), None)
            if place is None:
                self.assertEqual(made_of(world, saying, most), machines[()])
            else:
                self.refused(place, world, saying, most)

    def test_ahead_of_thinning(self):
        for base in BASES:
            # Two rooms come up, and the thinned machine has one.
            saying = ("same", (1, ()), (0, ()))
            self.assertEqual(len(made_of((base, {}), saying, 2)[1]), 1)
            self.refused((), (base, {}), saying, 1)
            self.refused((0,), (base, {}), ("not", saying), 1)

    def test_each_word_at_every_bound(self):
        f, g = ("less", plus(3, m=2), plus(0, n=3)), ("same", plus(0, n=1), plus(2, m=1))
        for base in BASES:
            for saying in (f, g, ("not", f), ("and", f, g), ("or", f, g), ("some", "n", f), ("each", "n", f),
                           ("some", "z", f), ("each", "z", g), ("each", "m", ("or", f, g)), ("some", "n", ("and", g, f)),
                           ("and", ("some", "n", f), ("each", "m", g)), ("or", ("not", g), ("and", g, f))):
                self.at_every_bound((base, {}), saying)
            world = (base, {"A": sum_row(base, 4), "B": sum_row(base, 3)})
            for saying in (("sign", "A", plus(5, m=3), 1), ("alike", "A", plus(1, m=1), "B", plus(0, m=2)),
                           ("some", "m", ("sign", "A", plus(1, m=1, n=1), 2)),
                           ("each", "n", ("or", ("sign", "A", M, 1), ("sign", "B", N, 1)))):
                self.at_every_bound(world, saying)

    def test_any_saying_at_every_bound(self):
        for base in BASES:
            chance = random.Random(base)
            for again in range(25):
                self.at_every_bound((base, {}), small_saying(chance, 7, 3))

    def test_parts_first_and_f_ahead_of_g(self):
        many, few = ("same", N, (99, ())), ("same", N, N)
        for base in BASES:
            for joins in ("and", "or"):
                self.refused((0,), (base, {}), (joins, many, many), 4)
                self.refused((1,), (base, {}), (joins, few, many), 4)
                self.refused((1, 0), (base, {}), (joins, few, ("not", many)), 4)
                self.refused((0, 0), (base, {}), (joins, ("not", many), many), 4)
                self.refused((0, 1, 0), (base, {}), ("not", (joins, few, ("some", "n", many))), 4)
                self.refused((1, 0, 0), (base, {}), (joins, few, ("each", "n", ("not", many))), 4)

    def test_at_the_word_itself(self):
        # Sums of figures by their rests: each pair comes up.
        for base in BASES:
            world = (base, {"A": sum_row(base, 4), "B": sum_row(base, 5)})
            f, g = ("sign", "A", M, 1), ("sign", "B", N, 1)
            for joins in ("and", "or"):
                self.assertIsNotNone(made_of(world, (joins, f, g), 20))
                self.refused((), world, (joins, f, g), 19)
                self.refused((0,), world, ("not", (joins, f, g)), 19)
                self.refused((1, 0), world, ("and", f, ("some", "m", (joins, f, g))), 19)

    def test_some_and_each_by_their_sets(self):
        for base in BASES:
            chance = random.Random(base)
            found = 0
            while found < 4:
                inside = small_saying(chance, 3, 1)
                for word in ("some", "each"):
                    saying = (word, "n", inside)
                    counts = dict(made_by_hand((base, {}), saying)[0])
                    within = max(many for place, many in counts.items() if place != ())
                    if counts[()] > within:
                        found += 1
                        self.refused((), (base, {}), saying, counts[()] - 1)
                        self.assertIsNotNone(made_of((base, {}), saying, counts[()]))

    def test_three_hundred_where_none_is_told(self):
        for base in BASES:
            for one, other, let in ((15, 20, True), (7, 43, False)):
                world = (base, {"A": sum_row(base, one), "B": sum_row(base, other)})
                atom = ("alike", "A", N, "B", M)
                pairs = ("and", ("sign", "A", N, 1), ("sign", "B", M, 1))
                for saying in (atom, pairs):
                    if let:
                        self.assertEqual(made_of(world, saying), made_of(world, saying, 300))
                    else:
                        self.refused((), world, saying)
                        self.refused((0,), world, ("not", saying))
                        self.assertIsNotNone(made_of(world, saying, most=301))

    def test_more_than_two_thousand_are_let_where_they_are_asked_for(self):
        world = (2, {"A": sum_row(2, 43), "B": sum_row(2, 47)})
        saying = ("and", ("sign", "A", N, 1), ("sign", "B", M, 1))
        self.assertEqual(len(made_of(world, saying, 2021)[1]), 43 * 47)
        self.refused((), world, saying, 2020)


if __name__ == "__main__":
    unittest.main()
