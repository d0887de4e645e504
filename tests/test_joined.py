"""Point 16: machines turned about by not, and joined by and, or."""

import itertools
import random
import unittest

from figurejudge.atoms import atom_of
from figurejudge.joined import both_of, either_of, turned_no
from figurejudge.machines import says_yes
from samples import BASES, grown_by_hand, letters_by_hand, random_machine, some_numbers

# Pairs of names: shared, apart, some of both, none.
NAME_PAIRS = (
    (("a", "b"), ("a", "b")), (("n",), ("n",)), (("a",), ("b",)), (("b",), ("a",)), (("a", "c"), ("b",)),
    (("b",), ("a", "c")), (("a", "b"), ("b", "c")), (("b", "c"), ("a", "c")), (("a", "b", "c"), ("b",)), ((), ()),
    ((), ("n",)), (("n",), ()), (("a", "b", "c"), ()), (("a", "b", "c"), ("a", "b", "c")), (("ab", "b"), ("a",)),
)


def own(names, letter, mine):
    """The figures that a machine's own names have in a letter of all names."""
    return tuple(letter[names.index(name)] for name in mine)


def pairs_by_hand(base, one, other, joins):
    """The pairs that come up and the machine, by point 16."""
    names = tuple(sorted({*one[0], *other[0]}))
    letters = {many: letters_by_hand(base, many) for many in range(4)}

    def onward(pair, letter):
        return tuple(machine[2][room][letters[len(machine[0])].index(own(names, letter, machine[0]))]
                     for machine, room in zip((one, other), pair))

    rooms, moves = grown_by_hand((0, 0), letters[len(names)], onward)
    return rooms, (names, tuple(joins((one[1][pair[0]], other[1][pair[1]])) for pair in rooms), moves)


class TurnedNoTest(unittest.TestCase):
    def test_the_same_rooms_yes_turned_about(self):
        for base in BASES:
            chance = random.Random(base)
            for names in ((), ("n",), ("a", "b"), ("a", "b", "c")):
                for rooms in (1, 2, 7, 30):
                    machine = random_machine(chance, base, names, rooms)
                    told = turned_no(machine)
                    self.assertEqual(told[0], names)
                    self.assertEqual(told[2], machine[2])
                    self.assertEqual(len(told[1]), rooms)
                    self.assertTrue(all(new is (not old) for new, old in zip(told[1], machine[1])))
                    self.assertEqual([type(part) for part in told], [tuple] * 3)
                    self.assertEqual(turned_no(told), machine)

    def test_not_thinned_and_rooms_that_do_not_come_up_stay(self):
        machine = (("n",), (True, True, False), ((1, 1), (0, 0), (2, 2)))
        self.assertEqual(turned_no(machine), (("n",), (False, False, True), ((1, 1), (0, 0), (2, 2))))

    def test_what_it_says(self):
        for base in BASES:
            chance = random.Random(base)
            for many in range(4):
                machine = random_machine(chance, base, ("a", "b", "c")[:many], 9)
                for numbers in some_numbers(chance, base, many):
                    self.assertIs(says_yes(base, turned_no(machine), numbers), not says_yes(base, machine, numbers))


class JoinedTest(unittest.TestCase):
    def both_words(self, base, one, other):
        """Each word's pairs as they come up, with no bound, at the bound and below it."""
        for function, joins in ((both_of, all), (either_of, any)):
            rooms, machine = pairs_by_hand(base, one, other, joins)
            many = len(rooms)
            told = function(base, one, other)
            self.assertEqual(told, machine)
            self.assertTrue(all(at is True or at is False for at in told[1]))
            self.assertEqual(function(base, one, other, many), machine)
            self.assertEqual(function(base, one, other, most=many + 1), machine)
            self.assertIsNone(function(base, one, other, many - 1))
            self.assertIsNone(function(base, one, other, most=0))

    def test_written_out(self):
        # Odd ones of n, and numbers n whose letter's first one isn't 0, so a pair that never comes up.
        odd = (("n",), (False, False, True), ((1, 2), (1, 1), (2, 2)))
        any_one = (("n",), (False, True), ((0, 1), (1, 1)))
        self.assertEqual(both_of(2, odd, any_one), (("n",), (False, False, True, False), ((1, 2), (1, 3), (2, 2), (3, 3))))
        self.assertEqual(either_of(2, odd, any_one), (("n",), (False, False, True, True), ((1, 2), (1, 3), (2, 2), (3, 3))))

    def test_names_apart_written_out(self):
        odd_m = (("m",), (False, False, True), ((1, 2), (1, 1), (2, 2)))
        odd_a = (("a",), (False, False, True), ((1, 2), (1, 1), (2, 2)))
        told = both_of(2, odd_m, odd_a)
        self.assertEqual(told[0], ("a", "m"))
        # Pairs (m's, a's): by letters (a, m) to (1, 1), (2, 1), (1, 2), (2, 2).
        self.assertEqual(told[2], ((1, 2, 3, 4), (1, 1, 1, 1), (2, 2, 2, 2), (3, 3, 3, 3), (4, 4, 4, 4)))
        self.assertEqual(told[1], (False, False, False, False, True))
        self.assertEqual(either_of(2, odd_m, odd_a)[1], (False, False, True, True, True))

    def test_names_shared_apart_and_none(self):
        for base in BASES:
            chance = random.Random(base)
            for left, right in NAME_PAIRS:
                for rooms in (1, 3, 6):
                    one = random_machine(chance, base, left, rooms)
                    other = random_machine(chance, base, right, chance.randint(1, 6))
                    self.both_words(base, one, other)

    def test_what_they_say(self):
        for base in BASES:
            chance = random.Random(base)
            seen = set()
            for left, right in NAME_PAIRS:
                one, other = random_machine(chance, base, left, 7), random_machine(chance, base, right, 8)
                names = sorted({*left, *right})
                both, either = both_of(base, one, other), either_of(base, one, other)
                for numbers in some_numbers(chance, base, len(names)):
                    values = dict(zip(names, numbers))
                    f = says_yes(base, one, tuple(values[name] for name in left))
                    g = says_yes(base, other, tuple(values[name] for name in right))
                    self.assertIs(says_yes(base, both, numbers), f and g)
                    self.assertIs(says_yes(base, either, numbers), f or g)
                    seen.add((f, g))
            self.assertEqual(len(seen), 4)

    def test_of_sayings_at_great_numbers(self):
        for base in BASES:
            less = atom_of((base, {}), ("less", (0, (("m", 2),)), (0, (("n", 3),))))
            same = atom_of((base, {}), ("same", (5, (("n", 1),)), (0, (("k", 1),))))
            both, either = both_of(base, less, same), either_of(base, less, same)
            self.assertEqual(both[0], ("k", "m", "n"))
            for n in (0, 1, 6, base ** 40, base ** 130 - 1, base ** 2000):
                for beside, m in itertools.product((-1, 0, 1), (0, 3 * n // 2, (3 * n + 1) // 2, 2 * n)):
                    f, g = 2 * m < 3 * n, beside == 0
                    self.assertIs(says_yes(base, both, (n + 5 + beside, m, n)), f and g)
                    self.assertIs(says_yes(base, either, (n + 5 + beside, m, n)), f or g)

    def test_one_with_itself_is_not_thinned(self):
        for base in BASES:
            machine = (("n",), (True,) * 3, tuple(((room + 1) % 3,) * base for room in range(3)))
            self.both_words(base, machine, machine)
            self.assertEqual(both_of(base, machine, machine), machine)
            two = (("n",), (True,) * 2, tuple(((room + 1) % 2,) * base for room in range(2)))
            self.assertEqual(len(both_of(base, machine, two)[1]), 6)

    def test_two_thousand_pairs_without_a_bound_told(self):
        def ring(rooms):
            return ("n",), (True,) * rooms, tuple(((room + 1) % rooms,) * 2 for room in range(rooms))
        for function in (both_of, either_of):
            self.assertEqual(len(function(2, ring(16), ring(125))[1]), 2000)
            self.assertEqual(function(2, ring(16), ring(125)), ring(2000))
            self.assertIsNone(function(2, ring(3), ring(667)))
            self.assertEqual(len(function(2, ring(3), ring(667), 2001)[1]), 2001)
            self.assertIsNone(function(2, ring(44), ring(1001)))
            self.assertEqual(function(2, ring(2000), ring(2000)), ring(2000))

    def test_more_than_three_names_are_not_refused(self):
        chance = random.Random(4)
        one, other = random_machine(chance, 2, ("a", "b", "c"), 3), random_machine(chance, 2, ("d",), 3)
        told = both_of(2, one, other)
        self.assertEqual(told[0], ("a", "b", "c", "d"))
        self.assertEqual(len(told[2][0]), 16)


if __name__ == "__main__":
    unittest.main()
