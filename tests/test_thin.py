"""Points 18 and 19: thinned machines, and what parts two rooms."""

import itertools
import random
import unittest

from figurejudge.atoms import atom_of
from figurejudge.hidden import some_of
from figurejudge.joined import both_of, either_of, turned_no
from figurejudge.machines import says_yes
from figurejudge.thin import parting_of, thinned
from samples import BASES, grown_by_hand, random_machine, some_numbers

NAMES = ("a", "b", "c")


def classes_by_hand(machine):
    """For each room the least one that is not apart from it: pairs are marked until none is left to mark."""
    names, yes, moves = machine
    rooms = range(len(yes))
    apart = {pair for pair in itertools.product(rooms, repeat=2) if yes[pair[0]] != yes[pair[1]]}
    while True:
        more = {(one, other) for one, other in itertools.product(rooms, repeat=2)
                if (one, other) not in apart and any(pair in apart for pair in zip(moves[one], moves[other]))}
        if not more:
            return [min(other for other in rooms if (room, other) not in apart) for room in rooms]
        apart |= more


def thinned_by_hand(machine):
    classes = classes_by_hand(machine)
    onward = lambda room, letter: classes[machine[2][room][letter]]
    rooms, moves = grown_by_hand(classes[0], range(len(machine[2][0])), onward)
    return machine[0], tuple(machine[1][room] for room in rooms), moves


def doubled(chance, machine, rooms):
    """The same machine with so many rooms, each a copy of one of its own, the first one of the first."""
    names, yes, moves = machine
    copies = [0] + [chance.randrange(len(yes)) for copy in range(rooms - 1)]
    for room in range(1, min(len(yes), rooms)):
        copies[room] = room
    of = [[copy for copy in range(rooms) if copies[copy] == room] for room in range(len(yes))]
    return (names, tuple(yes[room] for room in copies),
            tuple(tuple(chance.choice(of[to]) for to in moves[room]) for room in copies))


def counter(base, rooms, names=("n",)):
    """Counts the figures' sum and keeps at its last room, yes there alone."""
    letters = list(itertools.product(range(base), repeat=len(names)))
    moves = tuple(tuple(min(room + sum(letter), rooms - 1) for letter in letters) for room in range(rooms))
    return names, (False,) * (rooms - 1) + (True,), moves


def in_order(machine):
    """Whether the rooms are numbered as they come up, and all do."""
    met = [0]
    for leads in machine[2]:
        for to in leads:
            if to not in met:
                met.append(to)
    return met == list(range(len(machine[1])))


class ThinnedTest(unittest.TestCase):
    def right(self, machine):
        told = thinned(machine)
        self.assertEqual(told, thinned_by_hand(machine))
        self.assertTrue(in_order(told))
        self.assertEqual(sorted(classes_by_hand(told)), list(range(len(told[1]))))
        self.assertEqual(thinned(told), told)
        self.assertTrue(all(at is True or at is False for at in told[1]))
        return told

    def test_written_out(self):
        # Rooms 1 and 2 are alike, 3 never comes up.
        machine = (("n",), (False, True, True, False), ((0, 2), (2, 1), (1, 2), (3, 0)))
        self.assertEqual(self.right(machine), (("n",), (False, True), ((0, 1), (1, 1))))
        # Numbered as they come up: the last one first.
        machine = (("n",), (False, True, False), ((0, 2), (1, 0), (2, 1)))
        self.assertEqual(self.right(machine), (("n",), (False, False, True), ((0, 1), (1, 2), (2, 0))))

    def test_one_room_is_enough(self):
        for base in BASES:
            for many in range(4):
                for truth in (True, False):
                    for rooms in (1, 2, 9):
                        moves = tuple(((room + 1) % rooms,) * base ** many for room in range(rooms))
                        self.assertEqual(self.right((NAMES[:many], (truth,) * rooms, moves)),
                                         (NAMES[:many], (truth,), ((0,) * base ** many,)))

    def test_rooms_that_never_come_up_are_dropped(self):
        for base in BASES:
            chance = random.Random(base)
            for again in range(20):
                machine = random_machine(chance, base, ("n",), 5)
                more = (machine[1] + (True, False), machine[2] + ((5,) + (0,) * (base - 1), (6,) * base))
                self.assertEqual(self.right((machine[0],) + more), thinned(machine))
                self.assertLessEqual(len(thinned((machine[0],) + more)[1]), 5)

    def test_any_machine_of_none_to_three_names(self):
        for base in BASES:
            chance = random.Random(base)
            for many in range(4):
                for rooms in (1, 2, 3, 6, 12):
                    for again in range(4):
                        self.right(random_machine(chance, base, NAMES[:many], rooms))

    def test_it_says_the_same_of_all_tuples(self):
        for base in BASES:
            chance = random.Random(base)
            for many in range(4):
                for rooms in (7, 30, 200):
                    machine = doubled(chance, random_machine(chance, base, NAMES[:many], 7), rooms)
                    told = thinned(machine)
                    small = itertools.product(range(base + 2), repeat=many)
                    for numbers in some_numbers(chance, base, many) + list(small):
                        self.assertIs(says_yes(base, told, numbers), says_yes(base, machine, numbers))

    def test_noughts_need_keep_no_yes(self):
        chance = random.Random(6)
        for again in range(60):
            rooms = chance.randint(1, 9)
            yes = tuple(chance.random() < 0.5 for room in range(rooms))
            moves = tuple(tuple(chance.randrange(rooms) for letter in range(3)) for room in range(rooms))
            self.right((("n",), yes, moves))

    def test_machines_that_say_the_same_have_one(self):
        for base in BASES:
            chance = random.Random(base)
            for many in range(4):
                for again in range(6):
                    machine = random_machine(chance, base, NAMES[:many], 6)
                    for rooms in (6, 20, 90):
                        self.assertEqual(thinned(doubled(chance, machine, rooms)), thinned(machine))

    def test_one_machine_made_in_two_ways(self):
        for base in BASES:
            less = atom_of((base, {}), ("less", (3, (("m", 2),)), (0, (("n", 3),))))
            more = atom_of((base, {}), ("less", (0, (("n", 3),)), (4, (("m", 2),))))
            self.assertEqual(thinned(less), thinned(turned_no(more)))
            self.assertEqual(thinned(both_of(base, less, less)), thinned(less))
            self.assertEqual(thinned(either_of(base, less, turned_no(more))), thinned(less))
            even = atom_of((base, {}), ("same", (0, (("m", 1),)), (0, (("n", 2),))))
            twice = atom_of((base, {}), ("same", (0, (("m", 3),)), (0, (("n", 6),))))
            self.assertEqual(thinned(some_of(base, even, "n")), thinned(some_of(base, twice, "n")))
            self.assertEqual(len(thinned(some_of(base, even, "n"))[1]), 3 if base % 2 == 0 else 2)

    def test_some_hundreds_of_rooms(self):
        for base in BASES:
            chance = random.Random(base)
            for many in (1, 2, 3):
                machine = random_machine(chance, base, NAMES[:many], 300)
                told = thinned(machine)
                self.assertTrue(in_order(told))
                self.assertEqual(thinned(doubled(chance, machine, 900)), told)
                self.assertEqual(thinned(told), told)
                self.assertTrue(all(parting_of(told, 0, room) is not None for room in range(1, len(told[1]))))

    def test_long_counters_stay(self):
        for base in BASES:
            for rooms in (2, 400, 2000):
                machine = counter(base, rooms)
                if base == 2:
                    self.assertEqual(thinned(machine), machine)
                self.assertEqual(len(thinned(machine)[1]), rooms)
                self.assertEqual(thinned(doubled(random.Random(1), machine, rooms + 50)), thinned(machine))
        wide = counter(4, 1000, NAMES)
        self.assertEqual(len(thinned(wide)[1]), 1000)


def parting_by_lists(machine, one, other, longest):
    """By trying all lists up to a length, the shorter ones first and then by their order."""
    for length in range(longest + 1):
        for letters in itertools.product(range(len(machine[2][0])), repeat=length):
            left, right = one, other
            for letter in letters:
                left, right = machine[2][left][letter], machine[2][right][letter]
            if machine[1][left] != machine[1][right]:
                return list(letters)
    return None


def parting_by_pairs(machine, one, other):
    """By all pairs that come up, each once, in the order of the lists that lead to them."""
    lists = {(one, other): []}
    left = [(one, other)]
    for pair in left:
        if machine[1][pair[0]] != machine[1][pair[1]]:
            return lists[pair]
        for letter in range(len(machine[2][0])):
            to = (machine[2][pair[0]][letter], machine[2][pair[1]][letter])
            if to not in lists:
                lists[to] = lists[pair] + [letter]
                left.append(to)
    return None


class PartingTest(unittest.TestCase):
    def test_at_once(self):
        for base in BASES:
            machine = (("n",), (True, False), ((0,) * base, (1,) * base))
            self.assertEqual(parting_of(machine, 0, 1), [])
            self.assertEqual(parting_of(machine, 1, 0), [])

    def test_a_room_and_itself(self):
        for base in BASES:
            machine = random_machine(random.Random(base), base, ("m", "n"), 6)
            for room in range(6):
                self.assertIsNone(parting_of(machine, room, room))
            self.assertIsNone(parting_of((("n",), (True,), ((0,) * base,)), 0, 0))

    def test_rooms_that_are_not_apart(self):
        for base in BASES:
            chance = random.Random(base)
            machine = doubled(chance, random_machine(chance, base, ("m", "n"), 4), 30)
            classes = classes_by_hand(machine)
            for one, other in itertools.product(range(30), repeat=2):
                self.assertEqual(parting_of(machine, one, other) is None, classes[one] == classes[other])

    def test_the_first_by_order_of_the_shortest(self):
        # From 0 letters 1 and 2 part at once, from 3 letter 0 leads to a longer way.
        machine = (("n",), (False, False, True, False), ((1, 2, 2), (1, 1, 1), (2, 2, 2), (0, 0, 1)))
        self.assertEqual(parting_of(machine, 0, 1), [1])
        self.assertEqual(parting_of(machine, 3, 1), [0, 1])
        self.assertEqual(parting_of(machine, 1, 3), [0, 1])
        self.assertEqual(parting_of(machine, 0, 3), [1])

    def test_a_shorter_one_ahead_of_a_lesser_one(self):
        machine = (("n",), (False, False, False, False, True),
                   ((2, 4), (1, 1), (2, 2), (1, 1), (4, 4)))
        self.assertEqual(parting_of(machine, 0, 1), [1])
        machine = (("n",), (False,) * 5 + (True,), ((2, 3), (1, 1), (4, 1), (1, 5), (5, 1), (5, 5)))
        # By 0, 0, 0 or 1, 1: the shorter one.
        self.assertEqual(parting_of(machine, 0, 1), [1, 1])

    def test_by_trying_all_lists(self):
        for base in BASES:
            chance = random.Random(base)
            longest = 0
            for again in range(40):
                many = chance.randint(0, 2)
                rooms = chance.randint(2, 6)
                machine = random_machine(chance, base, NAMES[:many], rooms)
                if again % 4 == 0:
                    rooms = rooms + 5
                    machine = counter(base, rooms)
                for one, other in itertools.product(range(rooms), repeat=2):
                    told = parting_of(machine, one, other)
                    if told is not None and len(machine[2][0]) ** len(told) > 20000:
                        continue
                    known = len(told) if told is not None else 2
                    self.assertEqual(told, parting_by_lists(machine, one, other, known))
                    longest = max(longest, known)
            self.assertGreater(longest, 2)

    def test_by_all_pairs(self):
        for base in BASES:
            chance = random.Random(base)
            for many in range(4):
                for rooms in (5, 15, 40):
                    machine = doubled(chance, counter(base, rooms, NAMES[:many]), rooms + chance.randint(0, 20))
                    other = random_machine(chance, base, NAMES[:many], rooms)
                    for given in (machine, other):
                        for again in range(30):
                            pair = (chance.randrange(len(given[1])), chance.randrange(len(given[1])))
                            self.assertEqual(parting_of(given, *pair), parting_by_pairs(given, *pair))

    def test_long_partings(self):
        for base in BASES:
            machine = counter(base, 500)
            for one, other in ((0, 1), (0, 499), (250, 251), (10, 400)):
                self.assertEqual(parting_of(machine, one, other), parting_by_pairs(machine, one, other))
        self.assertEqual(parting_of(counter(2, 2000), 0, 1), [1] * 1998)

    def test_many_rooms_that_are_not_apart(self):
        chance = random.Random(8)
        machine = doubled(chance, random_machine(chance, 4, NAMES, 3), 1500)
        classes = thinned(machine)
        like = next(room for room in range(1, 1500) if parting_of(machine, 0, room) is None)
        self.assertGreater(like, 0)
        self.assertLessEqual(len(classes[1]), 3)

    def test_a_told_list_is_the_askers_own(self):
        machine = counter(2, 5)
        parting_of(machine, 0, 1).append("more")
        parting_of(machine, 0, 4).append("more")
        self.assertEqual(parting_of(machine, 0, 1), [1, 1, 1])
        self.assertEqual(parting_of(machine, 0, 4), [])


if __name__ == "__main__":
    unittest.main()
