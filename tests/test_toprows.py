"""Point 28: rows told from the greatest place down, and turned to rows that are told from the ones on."""

import itertools
import random
import unittest

from figurejudge.rows import look_world, sign_at
from figurejudge.toprows import row_of, sign_down
from samples import BASES, grown_by_hand, numbers_for, world_of
from test_thin import in_order


def random_down(chance, base, rooms, signs=10):
    """A row told from the greatest place down: 0 leads from room 0 to room 0, all else anywhere."""
    moves = [[chance.randrange(rooms) for figure in range(base)] for room in range(rooms)]
    moves[0][0] = 0
    return tuple(chance.randrange(signs) for room in range(rooms)), tuple(tuple(leads) for leads in moves)


def sign_by_reading(base, row, number):
    """By all figures from the greatest one on."""
    figures = []
    while number:
        number, figure = divmod(number, base)
        figures.insert(0, figure)
    room = 0
    for figure in figures:
        room = row[1][room][figure]
    return row[0][room]


def kinds_by_hand(base, row):
    """How many kinds of rooms that come up a row from the ones on has: unlike signs, or leading to unlike kinds."""
    rooms, moves = grown_by_hand(0, range(base), lambda room, figure: row[1][room][figure])
    kinds = [(row[0][room],) for room in rooms]
    while True:
        finer = [(kinds[at],) + tuple(kinds[to] for to in leads) for at, leads in enumerate(moves)]
        finer = [finer.index(kind) for kind in finer]
        if len(set(finer)) == len(set(kinds)):
            return len(set(finer))
        kinds = finer


def least_by_hand(base, row):
    """The functions from rooms to rooms that the figures read from the ones on make, as a row from the ones on."""
    signs, moves = row
    onward = lambda some, figure: tuple(some[leads[figure]] for leads in moves)
    rooms, leads = grown_by_hand(tuple(range(len(signs))), range(base), onward)
    return tuple(signs[some[0]] for some in rooms), leads


class SignDownTest(unittest.TestCase):
    def test_written_out(self):
        # The greatest figure tells it: from room 0 each figure leads to a room that all figures keep.
        top = ((5, 1, 2), ((0, 1, 2), (1, 1, 1), (2, 2, 2)))
        for number, sign in ((0, 5), (1, 1), (2, 2), (3, 1), (5, 1), (6, 2), (8, 2), (3 ** 300, 1), (2 * 3 ** 300 + 1, 2)):
            self.assertEqual(sign_down(3, top, number), sign)
        # The ones' figure tells it: the last one that is read.
        ones = ((0, 1), ((0, 1), (0, 1)))
        for number in (0, 1, 2, 3, 2 ** 200, 2 ** 200 + 1):
            self.assertEqual(sign_down(2, ones, number), number % 2)

    def test_by_reading_all_figures(self):
        for base in BASES:
            chance = random.Random(base)
            for again in range(12):
                row = random_down(chance, base, chance.randint(1, 3))
                for number in numbers_for(base):
                    told = sign_down(base, row, number)
                    self.assertEqual(told, sign_by_reading(base, row, number))
                    self.assertIs(type(told), int)

    def test_at_nought_the_sign_of_the_first_room(self):
        for base in BASES:
            for sign in range(10):
                self.assertEqual(sign_down(base, ((sign, 3), ((0,) + (1,) * (base - 1), (0,) * base)), 0), sign)


class RowOfTest(unittest.TestCase):
    def turned(self, base, row):
        told = row_of(base, row)
        look_world((base, {"A": told}))
        self.assertTrue(in_order(((),) + told))
        self.assertEqual(kinds_by_hand(base, told), len(told[0]))
        self.assertEqual(len(told[0]), kinds_by_hand(base, least_by_hand(base, row)))
        self.assertIs(type(told), tuple)
        self.assertTrue(type(told[0]) is tuple and type(told[1]) is tuple and all(type(one) is tuple for one in told[1]))
        return told

    def test_written_out(self):
        # The ones' figure: told from the ones on, the first figure is kept.
        self.assertEqual(self.turned(2, ((0, 1), ((0, 1), (0, 1)))), ((0, 0, 1), ((1, 2), (1, 1), (2, 2))))
        # The sum of the figures is the same from both ends.
        self.assertEqual(self.turned(2, ((4, 7), ((0, 1), (1, 0)))), ((4, 7), ((0, 1), (1, 0))))
        # The greatest figure: the last one that isn't 0.
        top = ((5, 1, 2), ((0, 1, 2), (1, 1, 1), (2, 2, 2)))
        self.assertEqual(self.turned(3, top), ((5, 1, 2), ((0, 1, 2), (1, 1, 2), (2, 1, 2))))
        self.assertEqual(self.turned(4, ((3,), ((0, 0, 0, 0),))), ((3,), ((0, 0, 0, 0),)))

    def test_noughts_may_change_signs_behind_the_first_room(self):
        # Told from the greatest place down, an odd count of noughts behind the first 1.
        row = ((0, 0, 1), ((0, 1), (2, 1), (1, 2)))
        told = self.turned(2, row)
        for number in range(200):
            self.assertEqual(sign_at((2, {"A": told}), "A", number), bin(number)[2:].count("0") % 2 if number else 0)

    def test_the_same_signs_at_all_numbers(self):
        for base in BASES:
            chance = random.Random(base)
            for rooms in (1, 2, 3):
                for signs in (2, 10):
                    for again in range(3):
                        row = random_down(chance, base, rooms, signs)
                        world = (base, {"A": self.turned(base, row)})
                        for number in numbers_for(base):
                            self.assertEqual(sign_at(world, "A", number), sign_by_reading(base, row, number))

    def test_all_rows_of_two_rooms_in_base_2(self):
        for first, one, other in itertools.product(range(2), repeat=3):
            for signs in ((0, 0), (0, 1)):
                row = (signs, ((0, first), (one, other)))
                told = self.turned(2, row)
                for number in range(64):
                    self.assertEqual(sign_at((2, {"A": told}), "A", number), sign_by_reading(2, row, number))

    def test_rooms_that_never_come_up_change_nothing(self):
        for base in BASES:
            chance = random.Random(base)
            for again in range(10):
                row = random_down(chance, base, 2)
                more = (row[0] + (9,), row[1] + (tuple(chance.randrange(3) for figure in range(base)),))
                self.assertEqual(self.turned(base, more), self.turned(base, row))

    def test_rooms_alike_are_one(self):
        for base in BASES:
            row = ((4, 4, 4), ((0,) + (1,) * (base - 1), (2,) * base, (1,) * base))
            self.assertEqual(self.turned(base, row), ((4,), ((0,) * base,)))

    def test_somewhat_more_rooms(self):
        for base in BASES:
            chance = random.Random(base)
            for rooms in (4, 5):
                row = random_down(chance, base, rooms, 3)
                told = self.turned(base, row)
                world = (base, {"A": told})
                for number in numbers_for(base)[:80]:
                    self.assertEqual(sign_at(world, "A", number), sign_by_reading(base, row, number))

    def test_more_than_two_thousand_rooms(self):
        # All functions of five rooms come up: a turn round, two changed, and one put upon another.
        row = (tuple(range(5)), ((0, 1, 1, 1), (1, 2, 0, 1), (2, 3, 2, 2), (3, 4, 3, 3), (4, 0, 4, 4)))
        told = row_of(4, row)
        self.assertEqual(len(told[0]), 5 ** 5)
        look_world((4, {"A": told}))

    def test_it_may_stand_in_a_world(self):
        for base in BASES:
            world = world_of(base)
            world[1]["F"] = row_of(base, ((0, 1), ((0,) + (1,) * (base - 1), (0,) + (1,) * (base - 1))))
            look_world(world)
            for number in numbers_for(base)[:80]:
                self.assertEqual(sign_at(world, "F", number), 1 if number % base else 0)

    def test_told_again_behind_another_the_same(self):
        for base in BASES:
            chance = random.Random(base)
            row, other = random_down(chance, base, 3), random_down(chance, base, 3)
            told = row_of(base, row)
            row_of(base, other)
            self.assertEqual(row_of(base, row), told)


if __name__ == "__main__":
    unittest.main()
