"""Points 12 and 15: what machines say, and how rooms come up."""

import itertools
import random
import unittest

from figurejudge.machines import grown_from, says_yes
from samples import BASES, grown_by_hand, random_machine, some_numbers

NAMES = ("a", "b", "c")


def says_by_hand(base, machine, numbers):
    """By the letters' place in the list of all letters, a nought more than need be."""
    names, yes, moves = machine
    letters = list(itertools.product(range(base), repeat=len(names)))
    room = 0
    left = list(numbers)
    while any(left):
        room = moves[room][letters.index(tuple(number % base for number in left))]
        left = [number // base for number in left]
    return yes[moves[room][0]]


class SaysYesTest(unittest.TestCase):
    def told(self, base, machine, numbers, truth):
        self.assertIs(says_yes(base, machine, numbers), truth, (base, machine, numbers))

    def test_of_noughts_the_first_room(self):
        for base in BASES:
            for many in range(4):
                for truth in (True, False):
                    leads = (0,) + (1,) * (base ** many - 1)
                    machine = (NAMES[:many], (truth, not truth), (leads, (1,) * base ** many))
                    self.told(base, machine, (0,) * many, truth)
                    if many:
                        self.told(base, machine, (0,) * (many - 1) + (1,), not truth)
                        self.told(base, machine, (base ** 50,) + (0,) * (many - 1), not truth)

    def test_of_no_names(self):
        for base in BASES:
            for truth in (True, False):
                self.told(base, ((), (truth,), ((0,),)), (), truth)
                self.told(base, ((), (truth, truth), ((1,), (0,))), (), truth)

    def test_the_ones_first(self):
        for base in BASES:
            # Yes where the ones' figure is 1.
            leads = tuple(2 if figure == 1 else 1 for figure in range(base))
            machine = (("n",), (False, False, True), (leads, (1,) * base, (2,) * base))
            for number in list(range(40)) + [base ** 40 + 1, base ** 40, base ** 130 + 1, base ** 130 + base]:
                self.told(base, machine, (number,), number % base == 1)

    def test_letters_by_the_order_of_tuples(self):
        for base in BASES:
            # One room more for each letter of the ones' place, which every later letter keeps.
            many = base ** 2
            for letter, figures in enumerate(itertools.product(range(base), repeat=2)):
                yes = tuple(room == letter + 1 for room in range(many + 1))
                yes = (yes[1],) + yes[1:]
                moves = (tuple(range(1, many + 1)),) + tuple((room,) * many for room in range(1, many + 1))
                for other in itertools.product(range(base), repeat=2):
                    self.told(base, (("m", "n"), yes, moves), other, other == figures)
                    later = (other[0] + base ** 3, other[1] + 2 * base ** 41)
                    self.told(base, (("m", "n"), yes, moves), later, other == figures)

    def test_numbers_of_unlike_lengths(self):
        for base in BASES:
            # Yes where the two are the same.
            leads = tuple(0 if one == other else 1 for one, other in itertools.product(range(base), repeat=2))
            machine = (("m", "n"), (True, False), (leads, (1,) * base ** 2))
            for places in (0, 1, 2, 40, 130, 3000):
                great = base ** places
                self.told(base, machine, (great, great), True)
                self.told(base, machine, (great, great + base ** (places + 7)), False)
                self.told(base, machine, (great + base ** (places + 7), great), False)
                self.told(base, machine, (0, great), False)
                self.told(base, machine, (great, 0), False)

    def test_any_machine_of_none_to_three_names(self):
        for base in BASES:
            chance = random.Random(base)
            for many in range(4):
                for rooms in (1, 2, 5, 40):
                    machine = random_machine(chance, base, NAMES[:many], rooms)
                    for numbers in some_numbers(chance, base, many):
                        self.told(base, machine, numbers, says_by_hand(base, machine, numbers))


class GrownTest(unittest.TestCase):
    def told(self, first, many, onward, is_yes):
        """Told with no bound, with just as many as come up, and with one less."""
        rooms, moves = grown_by_hand(first, range(many), onward)
        wanted = (rooms, tuple(is_yes(room) for room in rooms), moves)
        self.assertEqual(grown_from(first, many, onward, is_yes), wanted)
        self.assertEqual(grown_from(first, many, onward, is_yes, len(rooms)), wanted)
        self.assertEqual(grown_from(first, many, onward, is_yes, most=len(rooms) + 1), wanted)
        self.assertIsNone(grown_from(first, many, onward, is_yes, len(rooms) - 1))
        self.assertIsNone(grown_from(first, many, onward, is_yes, most=0))
        return wanted

    def test_numbers(self):
        wanted = self.told(0, 2, lambda room, letter: (2 * room + letter) % 7, lambda room: room == 3)
        self.assertEqual(wanted[0], [0, 1, 2, 3, 4, 5, 6])
        wanted = self.told(5, 3, lambda room, letter: (room * room - letter) % 11, lambda room: room > 4)
        self.assertEqual(wanted[0][:4], [5, 3, 2, 1])
        self.told(-4, 2, lambda room, letter: (room - 3 * letter) // 2, lambda room: room >= 0)

    def test_texts(self):
        onward = lambda room, letter: (room + "ab"[letter])[-3:]
        wanted = self.told("", 2, onward, lambda room: room.endswith("a"))
        self.assertEqual(wanted[0][:6], ["", "a", "b", "aa", "ab", "ba"])
        self.assertEqual(len(wanted[0]), 15)

    def test_tuples_and_none(self):
        def onward(room, letter):
            if room is None or letter == 2 and room:
                return None
            return (room + (letter,))[:3] if letter else ()
        wanted = self.told((), 3, onward, lambda room: room is None)
        self.assertEqual(wanted[0], [(), (1,), (2,), (1, 1), None, (2, 1), (1, 1, 1), (2, 1, 1)])
        self.assertEqual(wanted[1], (False, False, False, False, True, False, False, False))
        self.assertEqual(wanted[2][4], (4, 4, 4))

    def test_none_first(self):
        wanted = self.told(None, 2, lambda room, letter: () if letter else None, lambda room: room == ())
        self.assertEqual(wanted, ([None, ()], (False, True), ((0, 1), (0, 1))))

    def test_unlike_kinds_together(self):
        rooms = [0, "0", (0,), None, (), "", ((),), ("",), -1]
        onward = lambda room, letter: rooms[(3 * rooms.index(room) + 2 * letter + 1) % len(rooms)]
        self.told(0, 4, onward, lambda room: isinstance(room, tuple))

    def test_one_letter(self):
        wanted = self.told(9, 1, lambda room, letter: max(room - 2, 0), lambda room: room % 2 == 0)
        self.assertEqual(wanted, ([9, 7, 5, 3, 1, 0], (False,) * 5 + (True,), ((1,), (2,), (3,), (4,), (5,), (5,))))

    def test_one_room(self):
        for many in (1, 4, 64):
            wanted = self.told("here", many, lambda room, letter: room, lambda room: True)
            self.assertEqual(wanted, (["here"], (True,), ((0,) * many,)))

    def test_in_order_of_rooms_and_then_of_letters(self):
        chance = random.Random(3)
        for many in (1, 2, 3, 4, 9, 64):
            for again in range(20):
                rooms = chance.randint(1, 40)
                moves = [[chance.randrange(rooms) for letter in range(many)] for room in range(rooms)]
                yes = [chance.random() < 0.5 for room in range(rooms)]
                self.told(0, many, lambda room, letter: moves[room][letter], lambda room: yes[room])

    def test_two_thousand_without_a_bound_told(self):
        def ring(rooms, many, bound=None):
            onward = lambda room, letter: (room + letter) % rooms
            given = (0, many, onward, lambda room: room == 1) + (() if bound is None else (bound,))
            return grown_from(*given)
        for many in (2, 4):
            told = ring(2000, many)
            self.assertEqual(told[0], list(range(2000)))
            self.assertEqual(len(told[1]), 2000)
            self.assertEqual(told[2][1999], tuple((1999 + letter) % 2000 for letter in range(many)))
            self.assertIsNone(ring(2001, many))
            self.assertEqual(len(ring(2001, many, 2001)[0]), 2001)
            self.assertEqual(len(ring(5000, many, 6000)[0]), 5000)
            self.assertIsNone(ring(5000, many, 4999))

    def test_rooms_without_end_are_not_waited_for(self):
        for most in (0, 1, 2, 30, 2000):
            self.assertIsNone(grown_from(0, 2, lambda room, letter: 2 * room + letter + 1, lambda room: True, most))
        self.assertIsNone(grown_from(0, 1, lambda room, letter: room + 1, lambda room: True))

    def test_kinds(self):
        rooms, yes, moves = grown_from(0, 2, lambda room, letter: letter, lambda room: room == 0)
        self.assertIs(type(rooms), list)
        self.assertEqual([type(one) for one in (yes, moves, moves[0], moves[1])], [tuple] * 4)
        self.assertIs(yes[0], True)
        self.assertIs(yes[1], False)

    def test_told_anew_each_time(self):
        rooms = [0, 1, 2]
        ask = lambda: grown_from(0, 2, lambda room, letter: rooms[(room + letter) % 3], lambda room: room == 2)
        first = ask()
        first[0].append("more")
        first[0][0] = "other"
        second = ask()
        self.assertEqual(second, ([0, 1, 2], (False, False, True), ((0, 1), (1, 2), (2, 0))))
        self.assertIsNot(ask()[0], ask()[0])


if __name__ == "__main__":
    unittest.main()
