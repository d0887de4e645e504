"""Point 17: the machines of some and each, and their sets."""

import itertools
import random
import unittest

from figurejudge.atoms import atom_of
from figurejudge.hidden import each_of, sets_of, some_of
from figurejudge.joined import turned_no
from figurejudge.machines import says_yes
from samples import BASES, grown_by_hand, letters_by_hand, random_machine, some_numbers

NAMES = ("a", "b", "c")


def leads_by_hand(base, machine, name, room, letter):
    """The rooms to which a room goes by any figure for the name and a letter for the others."""
    names, yes, moves = machine
    spot = names.index(name)
    letters = letters_by_hand(base, len(names))
    return {moves[room][letters.index(letter[:spot] + (figure,) + letter[spot:])] for figure in range(base)}


def goes_on_by_hand(base, machine, name, room):
    """Whether by noughts for the others and any figures for the name one comes to a yes room."""
    seen, left = {room}, [room]
    while left:
        here = left.pop()
        if machine[1][here]:
            return True
        new = leads_by_hand(base, machine, name, here, (0,) * (len(machine[0]) - 1)) - seen
        seen |= new
        left += new
    return False


def sets_by_hand(base, machine, name):
    """The sets that come up and the machine of some, by point 17."""
    others = tuple(own for own in machine[0] if own != name)
    table = {}
    for room, letter in itertools.product(range(len(machine[1])), letters_by_hand(base, len(others))):
        table[room, letter] = leads_by_hand(base, machine, name, room, letter)
    onward = lambda some, letter: tuple(sorted(set().union(*[table[room, letter] for room in some])))
    rooms, moves = grown_by_hand((0,), letters_by_hand(base, len(others)), onward)
    can = [goes_on_by_hand(base, machine, name, room) for room in range(len(machine[1]))]
    return rooms, (others, tuple(any(can[room] for room in some) for some in rooms), moves)


def search(base, machine, name, numbers):
    """A hidden number with which the machine says yes of the others' numbers, or None, by walking back."""
    letters = letters_by_hand(base, len(machine[0]))
    spot = machine[0].index(name)
    seen = set()
    left = [(0, tuple(numbers), ())]
    while left:
        room, rest, figures = left.pop()
        if (room, rest) in seen:
            continue
        seen.add((room, rest))
        if machine[1][room] and not any(rest):
            return sum(figure * base ** place for place, figure in enumerate(figures))
        here = tuple(number % base for number in rest)
        after = tuple(number // base for number in rest)
        for figure in range(base):
            letter = letters.index(here[:spot] + (figure,) + here[spot:])
            left.append((machine[2][room][letter], after, figures + (figure,)))
    return None


def with_hidden(machine, name, numbers, hidden):
    spot = machine[0].index(name)
    return numbers[:spot] + (hidden,) + numbers[spot:]


NAME_ROWS = (NAMES[:1], NAMES[:2], NAMES, ("ab", "b"), ("nn",))


def ending_machine(chance, base, names, rooms):
    """A machine from whose first rooms most letters but noughts lead to one of two rooms that all letters keep."""
    names, yes, moves = random_machine(chance, base, names, rooms)
    ends = (rooms, rooms + 1)
    moves = [leads[:1] + tuple(chance.choice(ends) if chance.random() < 0.7 else to for to in leads[1:])
             for leads in moves]
    return names, yes + (True, False), tuple(moves) + tuple((end,) * len(moves[0]) for end in ends)


class SetsTest(unittest.TestCase):
    def as_told(self, base, machine, name):
        """The sets, some and each, with no bound, at the bound and below it."""
        rooms, some = sets_by_hand(base, machine, name)
        many = len(rooms)
        self.assertLessEqual(many, 2000)
        self.assertEqual(sets_of(base, machine, name), rooms)
        self.assertEqual(sets_of(base, machine, name, many), rooms)
        self.assertIsNone(sets_of(base, machine, name, many - 1))
        self.assertIsNone(sets_of(base, machine, name, most=0))
        self.assertTrue(all(type(one) is tuple for one in rooms))
        each = turned_no(sets_by_hand(base, turned_no(machine), name)[1])
        for function, told in ((some_of, some), (each_of, each)):
            self.assertEqual(function(base, machine, name), told)
            self.assertEqual(function(base, machine, name, many), told)
            self.assertEqual(function(base, machine, name, most=many + 1), told)
            self.assertIsNone(function(base, machine, name, many - 1))
            self.assertIsNone(function(base, machine, name, most=0))
            self.assertTrue(all(at is True or at is False for at in function(base, machine, name)[1]))
        return rooms

    def test_written_out(self):
        # m and n the same: some n of any m, each n of none.
        same = (("m", "n"), (True, False), ((0, 1, 1, 0), (1, 1, 1, 1)))
        self.assertEqual(sets_of(2, same, "n"), [(0,), (0, 1)])
        self.assertEqual(some_of(2, same, "n"), (("m",), (True, True), ((1, 1), (1, 1))))
        self.assertEqual(each_of(2, same, "n"), (("m",), (False, False), ((1, 1), (1, 1))))

    def test_twice_the_hidden_one_written_out(self):
        # m is n + n: by m's figure 1 at first there is none.
        twice = atom_of((2, {}), ("same", (0, (("m", 1),)), (0, (("n", 2),))))
        told = some_of(2, twice, "n")
        for m in range(30):
            self.assertIs(says_yes(2, told, (m,)), m % 2 == 0)
        # Its rooms are 0, 1 behind a figure 1 of n, and None: by m's 0 from 0 to 0 or 1, by m's 1 to None.
        self.assertEqual(twice[2], ((0, 1, 2, 2), (2, 2, 0, 1), (2, 2, 2, 2)))
        self.assertEqual(sets_of(2, twice, "n"), [(0,), (0, 1), (2,), (0, 1, 2)])
        self.assertEqual(told, (("m",), (True, True, False, True), ((1, 2), (3, 3), (2, 2), (3, 3))))

    def test_moves_by_the_other_names_letters_whichever_is_hidden(self):
        for base in BASES:
            chance = random.Random(base)
            for names in NAME_ROWS:
                for name in names:
                    for rooms in (1, 2, 4, 6):
                        self.as_told(base, random_machine(chance, base, names, rooms), name)

    def test_sets_of_several_rooms_come_up(self):
        for base in BASES:
            chance = random.Random(base)
            many = [len(self.as_told(base, random_machine(chance, base, ("m", "n"), 7), "n")) for again in range(10)]
            self.assertGreater(max(many), 5)

    def test_no_name_is_left(self):
        for base in BASES:
            chance = random.Random(base)
            for rooms in (1, 3, 9):
                machine = random_machine(chance, base, ("n",), rooms)
                self.as_told(base, machine, "n")
                told = some_of(base, machine, "n")
                self.assertEqual(told[0], ())
                self.assertTrue(all(len(leads) == 1 for leads in told[2]))
                self.assertIs(says_yes(base, told, ()), search(base, machine, "n", ()) is not None)

    def test_yes_behind_all_figures_of_the_others(self):
        for base in BASES:
            # Yes once n has had so many figures that are not 0, whatever m is: n may be far longer than m.
            for steps in (1, 2, 9):
                moves = []
                for room in range(steps):
                    moves.append(tuple(room if n == 0 else room + 1 for m, n in letters_by_hand(base, 2)))
                moves.append((steps,) * base ** 2)
                machine = (("m", "n"), (False,) * steps + (True,), tuple(moves))
                self.as_told(base, machine, "n")
                told = some_of(base, machine, "n")
                self.assertEqual(set(told[1]), {True})
                for m in (0, 1, base ** 40):
                    self.assertIs(says_yes(base, told, (m,)), True)
                    self.assertIs(says_yes(base, each_of(base, turned_no(machine), "n"), (m,)), False)
                # By noughts for n alone one does not come to yes; m hidden does not help.
                self.assertIs(says_yes(base, some_of(base, machine, "m"), (0,)), False)
                self.assertEqual(set(some_of(base, machine, "m")[1][:1]), {False})

    def test_noughts_alone_for_the_others(self):
        for base in BASES:
            # Yes is behind a letter whose m is not 0: it doesn't count where m has no figure more.
            leads = tuple(1 if m == 1 else 0 for m, n in letters_by_hand(base, 2))
            machine = (("m", "n"), (False, True), (leads, (1,) * base ** 2))
            self.as_told(base, machine, "n")
            told = some_of(base, machine, "n")
            self.assertIs(says_yes(base, told, (0,)), False)
            self.assertIs(says_yes(base, told, (1,)), True)
            self.assertIs(says_yes(base, told, (base ** 40,)), True)

    def test_as_often_as_need_be(self):
        # n must go through many letters of its own ahead of yes, of which some are noughts.
        for base in BASES:
            steps = 60
            moves = []
            for room in range(steps):
                wanted = 1 if room % 3 == 2 else base - 1
                moves.append(tuple(room if n == 0 else room + 1 if n == wanted else 0 for n in range(base)))
            machine = (("n",), (False,) * steps + (True,), tuple(moves) + ((steps,) * base,))
            self.as_told(base, machine, "n")
            self.assertEqual(some_of(base, machine, "n")[1][0], True)
            self.assertEqual(each_of(base, turned_no(machine), "n")[1][0], False)

    def test_a_name_that_the_machine_has_not(self):
        for base in BASES:
            chance = random.Random(base)
            for names in ((), ("n",), ("a", "c"), NAMES):
                machine = random_machine(chance, base, names, 6)
                for function in (some_of, each_of):
                    self.assertEqual(function(base, machine, "z"), machine)
                    self.assertEqual(function(base, machine, "bb"), machine)
                    self.assertEqual(function(base, machine, "z", 6), machine)

    def test_each_is_not_some_not(self):
        for base in BASES:
            chance = random.Random(base)
            for names in NAME_ROWS:
                for name in names:
                    machine = random_machine(chance, base, names, 5)
                    self.assertEqual(each_of(base, machine, name), turned_no(some_of(base, turned_no(machine), name)))

    def test_noughts_more_change_nothing(self):
        for base in BASES:
            chance = random.Random(base)
            for names in NAME_ROWS:
                for function in (some_of, each_of):
                    told = function(base, random_machine(chance, base, names, 6), names[-1])
                    self.assertTrue(all(told[1][leads[0]] is at for at, leads in zip(told[1], told[2])))

    def test_two_thousand_sets_without_a_bound_told(self):
        def ring(rooms):
            # The hidden figure counts nothing, so sets are single rooms.
            moves = tuple(tuple((room + m) % rooms for m, n in letters_by_hand(2, 2)) for room in range(rooms))
            return ("m", "n"), (True,) * rooms, moves
        self.assertEqual(sets_of(2, ring(2000), "n"), [(room,) for room in range(2000)])
        for function in (sets_of, some_of, each_of):
            self.assertIsNotNone(function(2, ring(2000), "n"))
            self.assertIsNone(function(2, ring(2001), "n"))
            self.assertIsNotNone(function(2, ring(2001), "n", 2001))
        self.assertEqual(len(some_of(2, ring(2000), "n")[1]), 2000)

    def test_very_many_sets_are_not_waited_for(self):
        # The hidden one guesses which letter of m is the 25th from behind: two to that power of sets.
        rooms = 26
        moves = [tuple(1 if m == 1 and n == 1 else 0 for m, n in letters_by_hand(2, 2))]
        moves += [(min(room + 1, rooms - 1),) * 4 for room in range(1, rooms)]
        yes = (True,) * rooms
        for function in (sets_of, some_of, each_of):
            self.assertIsNone(function(2, (("m", "n"), yes, tuple(moves)), "n"))


class SearchedTest(unittest.TestCase):
    def test_against_a_search_for_the_hidden_number(self):
        for base in BASES:
            chance = random.Random(base)
            seen = set()
            for names, kind in itertools.product(NAME_ROWS * 2, (random_machine, ending_machine)):
                name = chance.choice(names)
                machine = kind(chance, base, names, chance.randint(2, 9))
                some, each = some_of(base, machine, name), each_of(base, machine, name)
                for numbers in some_numbers(chance, base, len(names) - 1)[:33]:
                    hidden = search(base, machine, name, numbers)
                    against = search(base, turned_no(machine), name, numbers)
                    if hidden is not None:
                        self.assertIs(says_yes(base, machine, with_hidden(machine, name, numbers, hidden)), True)
                    if against is not None:
                        self.assertIs(says_yes(base, machine, with_hidden(machine, name, numbers, against)), False)
                    self.assertIs(says_yes(base, some, numbers), hidden is not None)
                    self.assertIs(says_yes(base, each, numbers), against is None)
                    seen.add((hidden is None, against is None))
            self.assertGreaterEqual(len(seen), 3)

    def test_of_sayings_by_their_sums(self):
        for base in BASES:
            numbers = [0, 1, 2, 5, 7, 8, 9] + [base ** 40 + beside for beside in range(-4, 5)] + [base ** 130 + 3]
            thirds = atom_of((base, {}), ("same", (0, (("m", 1),)), (2, (("n", 3),))))
            far = atom_of((base, {}), ("less", (0, (("m", 1),)), (0, (("n", 1),))))
            near = atom_of((base, {}), ("less", (0, (("n", 5),)), (0, (("m", 1),))))
            for m in numbers:
                self.assertIs(says_yes(base, some_of(base, thirds, "n"), (m,)), m >= 2 and m % 3 == 2)
                self.assertIs(says_yes(base, some_of(base, far, "n"), (m,)), True)
                self.assertIs(says_yes(base, each_of(base, far, "m"), (m,)), False)
                self.assertIs(says_yes(base, some_of(base, near, "n"), (m,)), m > 0)
                self.assertIs(says_yes(base, some_of(base, near, "m"), (m,)), True)
                self.assertIs(says_yes(base, each_of(base, turned_no(near), "n"), (m,)), m == 0)

    def test_two_hidden_one_after_the_other(self):
        for base in BASES:
            # Some a, b with m = 3a + 5b: all numbers but 1, 2, 4, 7.
            machine = atom_of((base, {}), ("same", (0, (("m", 1),)), (0, (("a", 3), ("b", 5)))))
            for first, second in (("a", "b"), ("b", "a")):
                told = some_of(base, some_of(base, machine, first), second)
                self.assertEqual(told[0], ("m",))
                for m in list(range(30)) + [base ** 40 + 1, base ** 41 + 7]:
                    self.assertIs(says_yes(base, told, (m,)), m not in (1, 2, 4, 7))


class KeptTest(unittest.TestCase):
    def test_a_told_list_is_the_askers_own(self):
        machine = random_machine(random.Random(7), 2, ("m", "n"), 6)
        first = sets_of(2, machine, "n")
        before = list(first)
        first[0] = "other"
        first.append("more")
        self.assertEqual(sets_of(2, machine, "n"), before)


if __name__ == "__main__":
    unittest.main()
