"""Points 5 and 25: the first tuples of which a machine says yes, in order, and how many there are."""

import itertools
import random
import unittest

from figurejudge.atoms import atom_of
from figurejudge.figures import is_ahead, letters_of, numbers_of
from figurejudge.joined import both_of, turned_no
from figurejudge.machines import says_yes
from figurejudge.maker import made_of
from figurejudge.order import first_of, first_tuples, how_many
from figurejudge.thin import thinned
from samples import BASES, figures_by_hand, letters_by_hand, random_machine, sum_row
from test_thin import counter, doubled

NAMES = ("a", "b", "c")


def tuples_by_hand(base, many, places):
    """All tuples of numbers with at most so many figures, by their letters from the greatest place on."""
    rows = lambda numbers: list(zip(*[reversed(figures_by_hand(base, number, places)) for number in numbers]))
    return sorted(itertools.product(range(base ** places), repeat=many), key=rows)


def yes_by_hand(base, machine, places):
    """Those of all tuples with at most so many figures of which a machine says yes, in order."""
    return [numbers for numbers in tuples_by_hand(base, len(machine[0]), places) if says_yes(base, machine, numbers)]


def ring(base, names, rooms):
    """It goes round by each letter that is not all noughts and says yes at its last room alone."""
    around = [(room,) + ((room + 1) % rooms,) * (base ** len(names) - 1) for room in range(rooms)]
    return names, (False,) * (rooms - 1) + (True,), tuple(around)


def trie(base, names, tuples):
    """A machine that says yes of these tuples alone: rooms by what was read while one of them may still come."""
    letters = range(base ** len(names))
    lists = {tuple(letters_of(base, numbers)) for numbers in tuples}
    read = sorted({some[:length] for some in lists for length in range(len(some) + 1)} | {()})
    rooms = {room: number for number, room in enumerate(read + ["end", "none"])}

    def holds(room):
        """Whether noughts alone lead from here to the end of one of them."""
        while room and room[-1] == 0:
            room = room[:-1]
        return room in lists

    def onward(room, letter):
        if room in ("end", "none"):
            return room if letter == 0 else "none"
        if room + (letter,) in rooms:
            return room + (letter,)
        return "end" if letter == 0 and holds(room) else "none"

    yes = tuple(holds(room) for room in read) + (True, False)
    return names, yes, tuple(tuple(rooms[onward(room, letter)] for letter in letters) for room in rooms)


def word_row(base, names, word):
    """A row of rooms: it says yes behind just these letters."""
    letters, sink = range(base ** len(names)), len(word) + 1
    moves = [tuple(at + 1 if letter == own else sink for letter in letters) for at, own in enumerate(word)]
    moves += [(len(word),) + (sink,) * (len(letters) - 1), (sink,) * len(letters)]
    return names, (False,) * len(word) + (True, False), tuple(moves)


def finite_for(chance, base, many, tuples, places):
    """A machine of finitely many tuples of at most so many figures, and these."""
    some = {tuple(chance.randrange(base ** chance.randint(0, places)) for spot in range(many)) for again in range(tuples)}
    return trie(base, NAMES[:many], sorted(some)), some


def with_more_rooms(machine, rooms):
    """With as many rooms more that never come up, of either yes."""
    names, yes, moves = machine
    more = [(len(yes) + spot,) + (0,) * (len(moves[0]) - 1) for spot in range(rooms)]
    return names, yes + tuple(spot % 2 == 0 for spot in range(rooms)), moves + tuple(more)


class FirstTuplesTest(unittest.TestCase):
    def in_order(self, base, machine, told):
        """In order, none of them wrong, and none left out that has fewer figures than the last one."""
        for one, other in zip(told, told[1:]):
            self.assertTrue(is_ahead(base, one, other))
        self.assertTrue(all(says_yes(base, machine, numbers) for numbers in told))
        longest = len(letters_of(base, told[-1])) if told else 0
        if longest:
            shorter = [numbers for numbers in told if len(letters_of(base, numbers)) < longest]
            self.assertEqual(len(shorter), how_many(base, machine, longest - 1))
        if told:
            self.assertEqual(first_of(base, machine), told[0])

    def as_by_hand(self, base, machine, places, asked):
        known = yes_by_hand(base, machine, places)
        for many in asked:
            told = first_tuples(base, machine, many)
            self.assertEqual(told[:len(known)], known[:many])
            self.assertTrue(len(told) == many or len(told) >= len(known))
            self.in_order(base, machine, told)

    def test_written_out(self):
        # The sum of the ones' figures is even.
        machine = (("a", "b"), (True, False), ((0, 1, 1, 0), (1, 0, 0, 1)))
        told = [(0, 0), (1, 1), (0, 3), (1, 2), (2, 1), (3, 0), (2, 2), (3, 3)]
        self.assertEqual(first_tuples(2, machine, 8), told)
        self.assertEqual(first_tuples(2, machine, 3), told[:3])
        self.assertEqual(first_of(2, machine), (0, 0))
        self.assertEqual(first_of(2, turned_no(machine)), (0, 1))
        less = atom_of((3, {}), ("less", (1, (("m", 1),)), (0, (("n", 1),))))
        self.assertEqual(first_tuples(3, less, 7), [(0, 2), (0, 3), (0, 4), (0, 5), (1, 3), (1, 4), (1, 5)])

    def test_any_machine_by_trying_all_tuples(self):
        for base in BASES:
            chance = random.Random(base)
            for many, places in ((1, 6 if base == 2 else 4), (2, 3), (3, 2 if base == 2 else 1)):
                for rooms in (1, 2, 4, 9):
                    for again in range(6):
                        machine = random_machine(chance, base, NAMES[:many], rooms)
                        self.as_by_hand(base, machine, places, (0, 1, 2, 7, 40))

    def test_of_no_names(self):
        for base in BASES:
            for rooms in (1, 3):
                moves = tuple(((room + 1) % rooms,) for room in range(rooms))
                for many in (0, 1, 2, 200):
                    self.assertEqual(first_tuples(base, ((), (True,) * rooms, moves), many), [()][:many])
                    self.assertEqual(first_tuples(base, ((), (False,) * rooms, moves), many), [])
                self.assertEqual(first_of(base, ((), (True,) * rooms, moves)), ())
                self.assertIsNone(first_of(base, ((), (False,) * rooms, moves)))

    def test_none_are_asked_for(self):
        for base in BASES:
            for many in range(1, 4):
                for yes in (True, False):
                    self.assertEqual(first_tuples(base, (NAMES[:many], (yes,), ((0,) * base ** many,)), 0), [])
                self.assertEqual(first_tuples(base, ring(base, NAMES[:many], 5), 0), [])

    def test_all_and_none(self):
        for base in BASES:
            for many in range(1, 4):
                for rooms in (1, 4):
                    moves = tuple(((room + 1) % rooms,) * base ** many for room in range(rooms))
                    every = (NAMES[:many], (True,) * rooms, moves)
                    places = 1
                    while base ** (places * many) < 200:
                        places += 1
                    self.assertEqual(first_tuples(base, every, 200), tuples_by_hand(base, many, places)[:200])
                    self.assertEqual(first_tuples(base, turned_no(every), 200), [])
                    self.assertIsNone(first_of(base, turned_no(every)))

    def test_finitely_many(self):
        for base in BASES:
            chance = random.Random(base)
            for many in (1, 2, 3):
                for tuples, places in ((1, 0), (1, 30), (3, 2), (6, 12), (12, 5)):
                    machine, some = finite_for(chance, base, many, tuples, places)
                    longest = max([len(letters_of(base, numbers)) for numbers in some])
                    rows = lambda numbers: list(zip(*[reversed(figures_by_hand(base, one, longest)) for one in numbers]))
                    known = sorted(some, key=rows)
                    for asked in (0, 1, len(known) - 1, len(known), len(known) + 1, 200):
                        self.assertEqual(first_tuples(base, machine, asked), known[:asked])
                    self.assertEqual(first_of(base, machine), known[0])
                    self.assertEqual(how_many(base, machine, longest), len(known))

    def test_all_but_finitely_many(self):
        for base in BASES:
            chance = random.Random(base)
            machine, some = finite_for(chance, base, 1, 6, 4)
            known = [(number,) for number in range(300) if (number,) not in some]
            self.assertEqual(first_tuples(base, turned_no(machine), 200), known[:200])

    def test_a_row_of_rooms_with_one_tuple(self):
        for base in BASES:
            chance = random.Random(base)
            for many in (1, 2, 3):
                for length in (1, 2, 40, 298, 398):
                    letters = base ** many
                    word = [chance.randrange(letters) for place in range(length - 1)] + [chance.randrange(1, letters)]
                    machine = word_row(base, NAMES[:many], word)
                    known = numbers_of(base, many, word)
                    self.assertEqual(first_tuples(base, machine, 200), [known])
                    self.assertEqual(first_of(base, machine), known)

    def test_rings_of_many_rooms(self):
        # Of one name in base 2: the numbers that have so many ones, by the places of their noughts.
        for rooms in (2, 30, 300):
            ones = rooms - 1
            found = []
            for noughts in range(3 if rooms < 60 else 2):
                for free in itertools.combinations(range(ones + noughts), noughts):
                    if ones + noughts - 1 not in free:
                        found.append(sum(2 ** place for place in range(ones + noughts) if place not in free))
            known = [(number,) for number in sorted(found)]
            if rooms > 2:
                self.assertEqual(first_tuples(2, ring(2, ("n",), rooms), 200), known[:200])
            self.assertEqual(first_of(2, ring(2, ("n",), rooms)), known[0])
        for base in BASES:
            for many in (1, 2, 3):
                for rooms in (7, 120, 300):
                    machine = ring(base, NAMES[:many], rooms)
                    told = first_tuples(base, machine, 200)
                    self.assertEqual(len(told), 200)
                    self.assertEqual(told[0], (0,) * (many - 1) + ((base ** (rooms - 1) - 1) // (base - 1),))
                    self.in_order(base, machine, told)

    def test_the_next_of_a_counter(self):
        for base in BASES:
            for rooms in (5, 100, 300):
                machine = counter(base, rooms)
                told = first_tuples(base, machine, 200)
                ones, rest = divmod(rooms - 1, base - 1)
                self.assertEqual(told[0], (rest * base ** ones + base ** ones - 1,))
                self.assertEqual(len(told), 200)
                self.in_order(base, machine, told)

    def test_lengths_with_gaps_between(self):
        # By the place of the one that a power of the base has: each fifth, and each third.
        for base in BASES:
            for step in (1, 3, 5):
                sink, end = step + 1, step
                moves = [tuple([(room + 1) % step, end] + [sink] * (base - 2)) for room in range(1)]
                moves += [tuple([(room + 1) % step] + [sink] * (base - 1)) for room in range(1, step)]
                moves += [(end,) + (sink,) * (base - 1), (sink,) * base]
                machine = (("n",), (False,) * step + (True, False), tuple(moves))
                self.assertEqual(first_tuples(base, machine, 60), [(base ** (step * k),) for k in range(60)])

    def test_machines_that_are_not_thinned(self):
        for base in BASES:
            chance = random.Random(base)
            for many in (0, 1, 2, 3):
                for again in range(8):
                    machine = random_machine(chance, base, NAMES[:many], 5)
                    told = first_tuples(base, machine, 50)
                    for other in (thinned(machine), doubled(chance, machine, 40), with_more_rooms(machine, 6),
                                  doubled(chance, with_more_rooms(machine, 3), 60)):
                        self.assertEqual(first_tuples(base, other, 50), told)
                        self.assertEqual(first_of(base, other), first_of(base, machine))
                        self.assertEqual(how_many(base, other, 9), how_many(base, machine, 9))

    def test_yes_in_rooms_that_never_come_up(self):
        for base in BASES:
            machine = with_more_rooms((("n",), (False,), ((0,) * base,)), 4)
            self.assertEqual(first_tuples(base, machine, 9), [])
            self.assertIsNone(first_of(base, machine))
            self.assertEqual(how_many(base, machine, 9), 0)

    def test_what_is_told_is_of_plain_kinds(self):
        machine = ring(2, ("m", "n"), 3)
        told = first_tuples(2, machine, 5)
        self.assertIs(type(told), list)
        self.assertTrue(all(type(numbers) is tuple and all(type(one) is int for one in numbers) for numbers in told))
        self.assertIs(type(first_of(2, machine)), tuple)
        self.assertIs(type(how_many(2, machine, 3)), int)

    def test_of_sayings(self):
        for base in BASES:
            world = (base, {"T": sum_row(base, 3)})
            triple = made_of(world, ("some", "m", ("same", (0, (("n", 1),)), (1, (("m", 3),)))))
            self.assertEqual(first_tuples(base, triple, 100), [(3 * number + 1,) for number in range(100)])
            between = made_of(world, ("and", ("less", (9, ()), (0, (("n", 1),))), ("less", (0, (("n", 1),)), (70, ()))))
            self.assertEqual(first_tuples(base, between, 200), [(number,) for number in range(10, 70)])


class FirstOfTest(unittest.TestCase):
    def test_the_first_of_any_machine(self):
        for base in BASES:
            chance = random.Random(base)
            for many in range(4):
                for rooms in (1, 3, 10, 60):
                    for again in range(15):
                        machine = random_machine(chance, base, NAMES[:many], rooms)
                        if again % 3 == 0:
                            # Of few yes rooms the first one lies far off.
                            yes = tuple(room == rooms - 1 for room in range(rooms))
                            moves = tuple((room,) + leads[1:] for room, leads in enumerate(machine[2]))
                            machine = (machine[0], yes, moves)
                        told = first_tuples(base, machine, 1)
                        self.assertEqual(first_of(base, machine), told[0] if told else None)

    def test_of_machines_of_some_thousand_rooms(self):
        for base in BASES:
            both = both_of(base, counter(base, 45), counter(base, 45, ("m",)), 3000)
            self.assertEqual(len(both[1]), 45 * 45)
            ones, rest = divmod(44, base - 1)
            least = rest * base ** ones + base ** ones - 1
            self.assertEqual(first_of(base, both), (least, least))


class HowManyTest(unittest.TestCase):
    def test_by_counting_one_by_one(self):
        for base in BASES:
            chance = random.Random(base)
            for many in range(4):
                for again in range(6):
                    machine = random_machine(chance, base, NAMES[:many], chance.choice((1, 3, 8)))
                    for places in range(7 if many < 2 else 3 if many == 2 else 2):
                        numbers = itertools.product(range(base ** places), repeat=many)
                        known = len([one for one in numbers if says_yes(base, machine, one)])
                        self.assertEqual(how_many(base, machine, places), known)

    def test_together_with_not_all_of_them(self):
        for base in BASES:
            chance = random.Random(base)
            for many in range(4):
                machine = random_machine(chance, base, NAMES[:many], 20)
                for places in range(21):
                    self.assertEqual(how_many(base, machine, places) + how_many(base, turned_no(machine), places),
                                     base ** (places * many))

    def test_of_no_figures_the_noughts_alone(self):
        for base in BASES:
            for many in range(4):
                for yes in (True, False):
                    machine = (NAMES[:many], (yes, not yes), ((0,) + (1,) * (base ** many - 1), (1,) * base ** many))
                    self.assertEqual(how_many(base, machine, 0), 1 if yes else 0)

    def test_of_no_names(self):
        for base in BASES:
            for places in range(21):
                self.assertEqual(how_many(base, ((), (True, True), ((1,), (0,))), places), 1)
                self.assertEqual(how_many(base, ((), (False,), ((0,),)), places), 0)

    def test_of_known_ones(self):
        for base in BASES:
            for places in range(21):
                less = atom_of((base, {}), ("less", (0, (("m", 1),)), (0, (("n", 1),))))
                count = base ** places
                self.assertEqual(how_many(base, less, places), count * (count - 1) // 2)
                three = atom_of((base, {}), ("same", (0, (("a", 1), ("b", 1))), (0, (("c", 1),))))
                self.assertEqual(how_many(base, three, places), count * (count + 1) // 2)

    def test_letters_stand_for_all_names(self):
        for base in BASES:
            for many in range(1, 4):
                machine = ring(base, NAMES[:many], 300)
                self.assertEqual(how_many(base, machine, 20), 0)
                every = len(letters_by_hand(base, many))
                self.assertEqual(how_many(base, ring(base, NAMES[:many], 3), 2), (every - 1) ** 2)


if __name__ == "__main__":
    unittest.main()
