"""Point 27: machines turned about, which read from the greatest place down."""

import itertools
import random
import unittest

from figurejudge.atoms import atom_of
from figurejudge.figures import letters_of
from figurejudge.joined import turned_no
from figurejudge.machines import says_yes
from figurejudge.thin import thinned
from figurejudge.turned import says_down, turned_about
from samples import BASES, grown_by_hand, random_machine, some_numbers
from test_order import ring, with_more_rooms
from test_thin import counter, doubled, in_order, thinned_by_hand

NAMES = ("a", "b", "c")


def sets_by_hand(machine):
    """As point 27 says it, ahead of thinning: the machine of the sets that come up."""
    names, yes, moves = machine
    rooms = range(len(yes))
    onward = lambda some, letter: frozenset(room for room in rooms if moves[room][letter] in some)
    sets, leads = grown_by_hand(frozenset(room for room in rooms if yes[room]), range(len(moves[0])), onward)
    return names, tuple(0 in some for some in sets), leads


def down_by_hand(machine, letters):
    room = 0
    for letter in letters:
        room = machine[2][room][letter]
    return machine[1][room]


class TurnedAboutTest(unittest.TestCase):
    def test_written_out(self):
        # n is 1: from the ones on a 1 and noughts, from the greatest place down noughts and a 1.
        one = (("n",), (False, True, False), ((2, 1), (1, 2), (2, 2)))
        self.assertEqual(turned_about(one), (("n",), (False, True, False), ((0, 1), (2, 2), (2, 2))))
        # Odd ones: the last thing that is read tells it.
        odd = (("n",), (False, True, False), ((2, 1), (1, 1), (2, 2)))
        self.assertEqual(turned_about(odd), (("n",), (False, True), ((0, 1), (0, 1))))
        self.assertEqual(turned_about((("n",), (False, False), ((1, 0), (0, 1)))), (("n",), (False,), ((0, 0),)))
        self.assertEqual(turned_about((("n",), (True, True), ((1, 0), (0, 1)))), (("n",), (True,), ((0, 0),)))

    def test_as_the_point_says_it(self):
        for base in BASES:
            chance = random.Random(base)
            for many in range(4):
                for rooms in (1, 2, 3, 5):
                    for again in range(8 if many < 3 else 2):
                        machine = random_machine(chance, base, NAMES[:many], rooms)
                        told = turned_about(machine)
                        self.assertEqual(told, thinned_by_hand(sets_by_hand(machine)))
                        self.assertEqual(told[0], NAMES[:many])
                        self.assertTrue(in_order(told))
                        self.assertTrue(all(at is True or at is False for at in told[1]))

    def test_turned_about_twice_it_is_the_thinned_one(self):
        for base in BASES:
            chance = random.Random(base)
            for many in range(4):
                for again in range(10):
                    machine = random_machine(chance, base, NAMES[:many], chance.choice((1, 3, 6)))
                    for given in (machine, turned_no(machine), doubled(chance, machine, 20), with_more_rooms(machine, 5)):
                        self.assertEqual(turned_about(turned_about(given)), thinned(given))

    def test_turned_again_by_the_same_words(self):
        for base in BASES:
            chance = random.Random(base)
            for again in range(20):
                turned = turned_about(random_machine(chance, base, ("n",), 4))
                self.assertEqual(turned_about(turned), thinned_by_hand(sets_by_hand(turned)))

    def test_rooms_that_never_come_up_change_nothing(self):
        for base in BASES:
            chance = random.Random(base)
            for again in range(10):
                machine = random_machine(chance, base, ("m", "n"), 4)
                self.assertEqual(turned_about(with_more_rooms(machine, 9)), turned_about(machine))
                self.assertEqual(turned_about(doubled(chance, machine, 30)), turned_about(machine))

    def test_many_rooms(self):
        for base in BASES:
            for many in (1, 2):
                machine = ring(base, NAMES[:many], 400)
                told = turned_about(machine)
                self.assertEqual(len(told[1]), 400)
                self.assertEqual(turned_about(told), thinned(machine))
            machine = counter(base, 300)
            self.assertEqual(len(turned_about(machine)[1]), 300)
        # What a few rooms say from the ones on may need many from the greatest place down, more than 2000, too.
        for deep in (6, 11):
            machine = atom_with_the_place(deep)
            told = turned_about(turned_about(machine))
            self.assertEqual(told, thinned(machine))
            self.assertEqual(len(turned_about(machine)[1]), 2 ** deep)

    def test_noughts_ahead_stay_in_the_first_room(self):
        for base in BASES:
            chance = random.Random(base)
            for many in range(4):
                told = turned_about(random_machine(chance, base, NAMES[:many], 5))
                self.assertEqual(told[2][0][0], 0)


def atom_with_the_place(deep):
    """Of one name in base 2: whether the figure at a place is 1; from the ones on it counts the places alone."""
    moves = [(room + 1, room + 1) for room in range(deep - 1)] + [(deep, deep + 1), (deep, deep), (deep + 1, deep + 1)]
    return ("n",), (False,) * (deep + 1) + (True,), tuple(moves)


class SaysDownTest(unittest.TestCase):
    def test_what_the_machine_says(self):
        for base in BASES:
            chance = random.Random(base)
            for many in range(4):
                for again in range(4):
                    machine = random_machine(chance, base, NAMES[:many], 5)
                    told = turned_about(machine)
                    tuples = some_numbers(chance, base, many) + list(itertools.product(range(base + 1), repeat=many))
                    for numbers in tuples:
                        self.assertIs(says_down(base, told, numbers), says_yes(base, machine, numbers))

    def test_of_sayings(self):
        for base in BASES:
            less = turned_about(atom_of((base, {}), ("less", (0, (("m", 1),)), (0, (("n", 1),)))))
            # From the greatest place down the first place where they differ tells it.
            self.assertEqual(len(less[1]), 3)
            same = turned_about(atom_of((base, {}), ("same", (1, (("m", 2),)), (0, (("n", 1),)))))
            for great in (0, 1, base ** 40, base ** 400 - 1, base ** 700 + 1):
                self.assertIs(says_down(base, less, (great, great)), False)
                self.assertIs(says_down(base, less, (great, great + 1)), True)
                self.assertIs(says_down(base, less, (great + 1, great)), False)
                self.assertIs(says_down(base, same, (great, 2 * great + 1)), True)
                self.assertIs(says_down(base, same, (great, 2 * great + 2)), False)

    def test_noughts_ahead_change_nothing(self):
        for base in BASES:
            chance = random.Random(base)
            for many in range(4):
                told = turned_about(random_machine(chance, base, NAMES[:many], 6))
                for numbers in some_numbers(chance, base, many):
                    letters = list(reversed(letters_of(base, numbers)))
                    for noughts in (0, 1, 7):
                        self.assertIs(down_by_hand(told, [0] * noughts + letters), says_down(base, told, numbers))

    def test_any_machine_is_read_from_the_greatest_place_down(self):
        for base in BASES:
            chance = random.Random(base)
            for again in range(20):
                rooms = chance.randint(1, 6)
                moves = tuple(tuple(chance.randrange(rooms) for letter in range(base)) for room in range(rooms))
                machine = (("n",), tuple(chance.random() < 0.5 for room in range(rooms)), ((0,) + moves[0][1:],) + moves[1:])
                for numbers in some_numbers(chance, base, 1):
                    letters = list(reversed(letters_of(base, numbers)))
                    self.assertIs(says_down(base, machine, numbers), down_by_hand(machine, letters))

    def test_of_no_names(self):
        for base in BASES:
            for yes in (True, False):
                told = turned_about(((), (yes, yes), ((1,), (0,))))
                self.assertEqual(told, ((), (yes,), ((0,),)))
                self.assertIs(says_down(base, told, ()), yes)


if __name__ == "__main__":
    unittest.main()
