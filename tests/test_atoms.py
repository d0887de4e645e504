"""Points 13 and 14: the machines of a same, a less, a sign and an alike."""

import itertools
import random
import unittest

from figurejudge.atoms import atom_of
from figurejudge.machines import says_yes
from samples import (BASES, figures_by_hand, grown_by_hand, holds_by_hand, letters_by_hand, random_row, random_world,
                     some_numbers, sum_row, wide_term, world_of)

NAMES = ("a", "b", "c", "nn")
NONE = (0, ())


def times(name, term):
    return sum(many for own, many in term[1] if own == name)


def names_by_hand(*terms):
    return tuple(sorted({name for term in terms for name, many in term[1]}))


def place_of(base, number):
    return next(places for places in itertools.count() if base ** places > number)


def balance_by_hand(world, saying):
    """The rooms of a same or a less and the machine, by point 13."""
    base = world[0]
    word, left, right = saying
    names = names_by_hand(left, right)
    counts = [times(name, left) - times(name, right) for name in names]

    def onward(room, letter):
        total = sum(figure * count for figure, count in zip(letter, counts))
        if word == "less":
            # The greatest number that is at most so much.
            return next(at for at in itertools.count(-(abs(room - total) + 1)) if (at + 1) * base > room - total)
        if room is None:
            return None
        return next((at for at in range(-abs(room - total), abs(room - total) + 1) if at * base == room - total), None)

    first = right[0] - left[0] - (1 if word == "less" else 0)
    rooms, moves = grown_by_hand(first, letters_by_hand(base, len(names)), onward)
    yes = tuple(room == 0 if word == "same" else room >= 0 for room in rooms)
    return rooms, (names, yes, moves)


def sign_after(base, row, room, carried):
    for figure in figures_by_hand(base, carried, place_of(base, carried)):
        room = row[1][room][figure]
    return row[0][room]


def rows_by_hand(world, saying):
    """The rooms of a sign or an alike and the machine, by point 14."""
    base, rows = world
    sides = [(rows[saying[spot]], saying[spot + 1]) for spot in (1, 3)[:1 if saying[0] == "sign" else 2]]
    names = names_by_hand(*[term for row, term in sides])

    def onward(room, letter):
        told = ()
        for spot, (row, term) in enumerate(sides):
            here, carried = room[2 * spot:2 * spot + 2]
            carried += sum(figure * times(name, term) for figure, name in zip(letter, names))
            told += (row[1][here][carried % base], carried // base)
        return told

    def is_yes(room):
        signs = [sign_after(base, row, *room[2 * spot:2 * spot + 2]) for spot, (row, term) in enumerate(sides)]
        return signs[0] == (saying[3] if saying[0] == "sign" else signs[1])

    first = sum([(0, term[0]) for row, term in sides], ())
    rooms, moves = grown_by_hand(first, letters_by_hand(base, len(names)), onward)
    return rooms, (names, tuple(is_yes(room) for room in rooms), moves)


class AtomTest(unittest.TestCase):
    def as_told(self, world, saying, by_hand):
        """The very rooms, with no bound and at the bound."""
        rooms, machine = by_hand(world, saying)
        many = len(rooms)
        self.assertLessEqual(many, 2000, saying)
        self.assertEqual(atom_of(world, saying), machine, saying)
        self.assertEqual(atom_of(world, saying, many), machine)
        self.assertEqual(atom_of(world, saying, most=many + 1), machine)
        self.assertIsNone(atom_of(world, saying, many - 1))
        self.assertIsNone(atom_of(world, saying, most=0))
        return rooms

    def says(self, world, saying, tuples):
        machine = atom_of(world, saying, 20000)
        seen = set()
        for numbers in tuples:
            values = dict(zip(machine[0], numbers))
            truth = holds_by_hand(world, saying, values, 0)
            self.assertIs(says_yes(world[0], machine, numbers), truth, (saying, values))
            seen.add(truth)
        return seen


class BalanceTest(AtomTest):
    def test_a_same_written_out(self):
        rooms = self.as_told((2, {}), ("same", (0, (("n", 1),)), (5, ())), balance_by_hand)
        self.assertEqual(rooms, [5, None, 2, 1, 0])
        machine = atom_of((2, {}), ("same", (0, (("n", 1),)), (5, ())))
        self.assertEqual(machine, (("n",), (False, False, False, False, True),
                                   ((1, 2), (1, 1), (3, 1), (1, 4), (4, 1))))

    def test_a_less_written_out(self):
        rooms = self.as_told((2, {}), ("less", (0, (("n", 1),)), (5, ())), balance_by_hand)
        self.assertEqual(rooms, [4, 2, 1, 0, -1])
        machine = atom_of((2, {}), ("less", (0, (("m", 1),)), (0, (("n", 1),))))
        # At first -1; by (0, 1) to 0, by (1, 0) down to -1.
        self.assertEqual(machine, (("m", "n"), (False, True), ((0, 1, 0, 0), (1, 1, 0, 1))))

    def test_names_of_both_terms_also_where_c_is_nought(self):
        for base in BASES:
            for word in ("same", "less"):
                twice = (3, (("b", 4), ("z", 1)))
                machine = atom_of((base, {}), (word, twice, (2, (("a", 1), ("b", 4)))))
                self.assertEqual(machine[0], ("a", "b", "z"))
                machine = atom_of((base, {}), (word, (1, (("n", 3),)), (1, (("n", 3),))))
                self.assertEqual(machine[0], ("n",))
                self.assertEqual(machine[1][0], word == "same")
                for number in (0, 1, base ** 40, base ** 130 - 1):
                    self.assertIs(says_yes(base, machine, (number,)), word == "same")
                machine = atom_of((base, {}), (word, (0, (("m", 2), ("n", 1))), (0, (("n", 1),))))
                self.assertEqual(machine[0], ("m", "n"))
                self.assertEqual(len(machine[2][0]), base ** 2)

    def test_without_names(self):
        for base in BASES:
            for left, right in itertools.product((0, 1, 2, 3, 8, 9, 27, 64, 99), repeat=2):
                for word in ("same", "less"):
                    saying = (word, (left, ()), (right, ()))
                    self.as_told((base, {}), saying, balance_by_hand)
                    machine = atom_of((base, {}), saying)
                    self.assertEqual(machine[0], ())
                    self.assertIs(says_yes(base, machine, ()), left == right if word == "same" else left < right)

    def test_none_is_a_room_of_a_same(self):
        for base in BASES:
            rooms = self.as_told((base, {}), ("same", (1, ()), NONE), balance_by_hand)
            self.assertEqual(rooms, [-1, None])
            self.assertEqual(atom_of((base, {}), ("same", (1, ()), NONE)), ((), (False, False), ((1,), (1,))))
            self.assertIsNone(atom_of((base, {}), ("same", (1, ()), NONE), 1))

    def test_yes_at_nought_alone_or_from_nought_on(self):
        for base in BASES:
            for saying in (("same", (7, (("n", 2),)), (0, (("m", 3),))), ("less", (7, (("n", 2),)), (0, (("m", 3),)))):
                rooms = self.as_told((base, {}), saying, balance_by_hand)
                yes = atom_of((base, {}), saying)[1]
                self.assertGreater(max(room for room in rooms if room is not None), 0)
                self.assertLess(min(room for room in rooms if room is not None), 0)
                for room, at in zip(rooms, yes):
                    self.assertIs(at, room == 0 if saying[0] == "same" else room >= 0)

    def test_the_very_rooms_of_any(self):
        for base in BASES:
            chance = random.Random(base)
            for again in range(60):
                names = chance.sample(NAMES, chance.randint(0, 3))
                saying = (chance.choice(("same", "less")), wide_term(chance, names), wide_term(chance, names))
                self.as_told((base, {}), saying, balance_by_hand)

    def test_great_numbers_near_to_where_the_terms_are_the_same(self):
        for base in BASES:
            chance = random.Random(base)
            for again in range(30):
                more, one, other = chance.randrange(100), chance.randint(1, 9), chance.randint(1, 9)
                left, right = (more, (("m", one),)), (0, (("a", 1), ("n", other)))
                tuples = []
                for places in (0, 1, 2, 5, 40, 41, 130):
                    n = chance.randrange(base ** places)
                    m = other * n + chance.choice((0, 1, base ** places))
                    same = more + one * m - other * n
                    tuples += [(a, m, n) for a in (same - 1, same, same + 1) if a >= 0]
                for word in ("same", "less"):
                    self.assertEqual(self.says((base, {}), (word, left, right), tuples), {True, False})
                    self.assertEqual(self.says((base, {}), (word, right, left), tuples), {True, False})

    def test_at_each_side_of_a_great_sum(self):
        for base in BASES:
            for number in (0, 1, 7, base ** 40, base ** 40 - 1, base ** 131 + 5, base ** 3000):
                tuples = [(m, number) for m in range(3 * number + 4 - 2, 3 * number + 4 + 3)]
                for word, left, right in (("same", (0, (("m", 1),)), (4, (("n", 3),))),
                                          ("same", (4, (("n", 3),)), (0, (("m", 1),))),
                                          ("less", (0, (("m", 1),)), (4, (("n", 3),))),
                                          ("less", (4, (("n", 3),)), (0, (("m", 1),)))):
                    self.assertEqual(self.says((base, {}), (word, left, right), tuples), {True, False})

    def test_any_saying_of_any_numbers(self):
        for base in BASES:
            chance = random.Random(base)
            seen = set()
            for again in range(60):
                names = chance.sample(NAMES, chance.randint(0, 3))
                saying = (chance.choice(("same", "less")), wide_term(chance, names), wide_term(chance, names))
                many = len(names_by_hand(saying[1], saying[2]))
                tuples = some_numbers(chance, base, many) + list(itertools.product(range(5), repeat=many))
                seen |= self.says((base, {}), saying, tuples)
            self.assertEqual(seen, {True, False})

    def test_beyond_the_bounds(self):
        for base in BASES:
            saying = ("same", (1000, (("n", 1),)), (0, (("m", 12),)))
            self.says((base, {}), saying, [(m, 12 * m - 1000 + beside) for m in (84, 85, base ** 90) for beside in (0, 1)])


class RowTest(AtomTest):
    def test_a_sign_written_out(self):
        world = (2, {"T": ((0, 1), ((0, 1), (1, 0)))})
        rooms = self.as_told(world, ("sign", "T", (1, (("n", 1),)), 1), rows_by_hand)
        self.assertEqual(rooms, [(0, 1), (1, 0), (0, 0)] + rooms[3:])
        # By 0 to the room of 1 with nothing carried, by 1 to that of 0 with 1 carried; yes by going on with it.
        self.assertEqual(rooms, [(0, 1), (1, 0), (0, 0)])
        self.assertEqual(atom_of(world, ("sign", "T", (1, (("n", 1),)), 1)),
                         (("n",), (True, True, False), ((1, 0), (1, 2), (2, 1))))

    def test_yes_by_going_on_with_what_is_carried(self):
        for base in BASES:
            world = world_of(base)
            for number in range(60):
                for name in world[1]:
                    for sign in (0, 1, 2, 3, 7):
                        saying = ("sign", name, (number, ()), sign)
                        self.as_told(world, saying, rows_by_hand)
                        machine = atom_of(world, saying)
                        self.assertIs(machine[1][0], holds_by_hand(world, saying, {}, 0))
                        self.assertEqual(set(machine[1]), {machine[1][0]})

    def test_terms_without_names(self):
        for base in BASES:
            chance = random.Random(base)
            for again in range(60):
                world = random_world(chance, base)
                one, other = (chance.randrange(100), ()), (chance.randrange(100), ())
                for saying in (("sign", "A", one, chance.randrange(3)), ("alike", "A", one, "B", other)):
                    self.as_told(world, saying, rows_by_hand)
                    machine = atom_of(world, saying)
                    self.assertEqual(machine[0], ())
                    self.assertIs(says_yes(base, machine, ()), holds_by_hand(world, saying, {}, 0))
                saying = ("alike", "A", one, "B", (3, (("n", 2),)))
                self.as_told(world, saying, rows_by_hand)
                self.says(world, saying, some_numbers(chance, base, 1))

    def test_names_rising(self):
        world = world_of(2)
        self.assertEqual(atom_of(world, ("alike", "T", (0, (("n", 1),)), "A", (0, (("ab", 1), ("b", 1)))))[0],
                         ("ab", "b", "n"))
        self.assertEqual(atom_of(world, ("alike", "T", (0, (("n", 1),)), "A", (0, (("m", 1), ("n", 1)))))[0],
                         ("m", "n"))
        self.assertEqual(atom_of(world, ("sign", "T", (0, (("n", 1), ("nn", 2), ("z", 1))), 0))[0], ("n", "nn", "z"))

    def test_the_same_row_twice(self):
        for base in BASES:
            world = world_of(base)
            chance = random.Random(base)
            n = (0, (("n", 1),))
            same = ("alike", "T", n, "T", n)
            self.assertEqual(set(atom_of(world, same)[1]), {True})
            self.as_told(world, same, rows_by_hand)
            for name in world[1]:
                for right in ((1, (("n", 1),)), (0, (("n", 2),)), (0, (("m", 1),)), (4, (("n", base),))):
                    saying = ("alike", name, n, name, right)
                    self.as_told(world, saying, rows_by_hand)
                    many = len(names_by_hand(n, right))
                    self.says(world, saying, some_numbers(chance, base, many))

    def test_a_sign_that_the_row_has_not(self):
        for base in BASES:
            world = world_of(base)
            for name in world[1]:
                saying = ("sign", name, (5, (("n", 3),)), 9)
                self.as_told(world, saying, rows_by_hand)
                self.assertEqual(set(atom_of(world, saying)[1]), {False})

    def test_the_very_rooms_of_any(self):
        for base in BASES:
            chance = random.Random(base)
            for again in range(50):
                world = random_world(chance, base, 4)
                names = chance.sample(NAMES, chance.randint(0, 2))
                one, other = wide_term(chance, names), wide_term(chance, names)
                for saying in (("sign", "A", one, chance.randrange(3)), ("alike", "A", one, "B", (other[0], ()))):
                    self.as_told(world, saying, rows_by_hand)
            for again in range(10):
                world = random_world(chance, base, 3)
                few = (chance.randrange(20), (("m", chance.randint(1, 3)),))
                self.as_told(world, ("alike", "A", few, "B", (chance.randrange(9), (("n", 1),))), rows_by_hand)

    def test_three_names_in_one_term(self):
        for base in BASES:
            chance = random.Random(base)
            world = random_world(chance, base, 4)
            saying = ("sign", "B", (99, (("a", 9), ("b", 9), ("c", 9))), world[1]["B"][0][0])
            self.as_told(world, saying, rows_by_hand)
            self.says(world, saying, some_numbers(chance, base, 3))

    def test_rows_of_thirty_rooms_at_great_numbers(self):
        for base in BASES:
            chance = random.Random(base)
            seen = set()
            for again in range(12):
                world = (base, {"A": random_row(chance, base, 30), "B": random_row(chance, base, chance.randint(5, 30))})
                one = (chance.randrange(100), (("m", chance.randint(1, 9)), ("n", chance.randint(1, 3))))
                saying = ("sign", "A", one, chance.choice(world[1]["A"][0]))
                self.as_told(world, saying, rows_by_hand)
                seen |= self.says(world, saying, some_numbers(chance, base, 2))
                saying = ("alike", "A", (chance.randrange(100), (("n", 2),)), "B", (chance.randrange(9), (("n", 1),)))
                seen |= self.says(world, saying, some_numbers(chance, base, 1))
            self.assertEqual(seen, {True, False})

    def test_thousands_of_figures(self):
        for base in BASES:
            world = world_of(base)
            for saying in (("sign", "T", (5, (("n", 3),)), 1), ("alike", "T", (0, (("n", 2),)), "LAS", (1, (("n", 1),)))):
                self.says(world, saying, [(base ** 3000 - 1,), (base ** 3000 + 7,), ((base - 1) * base ** 4000 + 1,)])

    def test_more_than_two_thousand(self):
        chance = random.Random(1)
        world = (4, {"A": random_row(chance, 4, 30), "B": random_row(chance, 4, 30)})
        saying = ("alike", "A", (9, (("m", 9), ("n", 8))), "B", (0, (("k", 7),)))
        self.assertIsNone(atom_of(world, saying))
        self.assertIsNone(atom_of(world, saying, 2000))

    def test_two_thousand_without_a_bound_told(self):
        # Sums of figures by their rests: each room comes up with each of the other row.
        n, m = (0, (("n", 1),)), (0, (("m", 1),))
        for one, other, let in ((40, 50, True), (3, 667, False)):
            world = (2, {"A": sum_row(2, one), "B": sum_row(2, other)})
            saying = ("alike", "A", n, "B", m)
            told = atom_of(world, saying, one * other)
            self.assertEqual(len(told[1]), one * other)
            self.assertIsNone(atom_of(world, saying, one * other - 1))
            self.assertEqual(atom_of(world, saying), told if let else None)


class KeptTest(AtomTest):
    def test_noughts_more_change_nothing(self):
        for base in BASES:
            chance = random.Random(base)
            for again in range(60):
                world = random_world(chance, base, 5)
                one, other = wide_term(chance, ("m", "n")), wide_term(chance, ("m", "n"))
                for saying in (("same", one, other), ("less", one, other), ("sign", "A", one, 1)):
                    names, yes, moves = atom_of(world, saying)
                    self.assertTrue(all(yes[leads[0]] is at for at, leads in zip(yes, moves)))

    def test_a_world_changed_behind_the_call_is_read_anew(self):
        world = world_of(2)
        saying = ("sign", "T", (0, (("n", 1),)), 1)
        first = atom_of(world, saying)
        world[1]["T"] = world[1]["F"]
        self.assertEqual(first, atom_of(world_of(2), saying))
        self.assertEqual(atom_of(world, saying), (("n",), (False,), ((0, 0),)))


if __name__ == "__main__":
    unittest.main()
