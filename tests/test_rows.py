"""Points 6 and 7: the signs of rows, and worlds that are right or refused."""

import itertools
import random
import unittest

from figurejudge.errors import NoRow
from figurejudge.rows import look_world, sign_at
from samples import BASES, figures_by_hand, flat_row, last_row, numbers_for, ones_row, sum_row, world_of


def places_for(base, number):
    places = 0
    while base ** places <= number:
        places += 1
    return places


def signs_by_hand(base, number):
    """The signs of world_of's rows, told by what each row is, not by its rooms."""
    figures = figures_by_hand(base, number, places_for(base, number))
    return {"T": sum(figures) % 3, "A": number % base, "LAS": (figures or [0])[-1], "F": 7}


def altered(row, room, figure, to):
    """The row with one move changed."""
    moves = [list(leads) for leads in row[1]]
    moves[room][figure] = to
    return row[0], tuple(tuple(leads) for leads in moves)


def wrong_rows(base):
    """Rows with one fault each, by the fault's words."""
    signs, moves = sum_row(base, 3)
    row = (signs, moves)
    return {
        "one tuple too many": (signs, moves + (moves[0],)),
        "one tuple too few": (signs, moves[:-1]),
        "no tuples": (signs, ()),
        "tuples without signs": ((), moves),
        "a tuple too short": (signs, moves[:1] + (moves[1][:-1],) + moves[2:]),
        "the last tuple too short": (signs, moves[:-1] + (moves[-1][:-1],)),
        "an empty tuple": (signs, ((),) + moves[1:]),
        "a tuple too long": (signs, moves[:1] + (moves[1] + (0,),) + moves[2:]),
        "the first tuple too long": (signs, (moves[0] + (0,),) + moves[1:]),
        "a room below 0": altered(row, 1, 1, -1),
        "a room far below 0": altered(row, 2, base - 1, -3),
        "a room one past the last": altered(row, 0, base - 1, 3),
        "a room far past the last": altered(row, 2, 1, 99),
        "nought to a room that is none": altered(row, 1, 0, 3),
        "nought to a room below 0 of the same sign": altered(row, 2, 0, -1),
        "nought to another sign": altered(row, 0, 0, 1),
        "nought to another sign at the last room": altered(row, 2, 0, 0),
        "nought back to a first room of another sign": altered(row, 1, 0, 0),
    }


class SignTest(unittest.TestCase):
    def test_at_nought_the_first_room(self):
        for base in BASES:
            for sign in range(10):
                self.assertEqual(sign_at((base, {"F": flat_row(base, sign)}), "F", 0), sign)
            row = ((4, 4, 9), ((1,) + (2,) * (base - 1), (1,) + (0,) * (base - 1), (2,) * base))
            self.assertEqual(sign_at((base, {"R": row}), "R", 0), 4)
            self.assertEqual(sign_at((base, {"R": row}), "R", 1), 9)

    def test_written_out(self):
        turns = (2, {"T": ((0, 1), ((0, 1), (1, 0)))})
        told = [sign_at(turns, "T", number) for number in range(16)]
        self.assertEqual(told, [0, 1, 1, 0, 1, 0, 0, 1, 1, 0, 0, 1, 0, 1, 1, 0])
        self.assertEqual([sign_at((3, {"O": ones_row(3)}), "O", n) for n in range(10)], [0, 1, 2] * 3 + [0])
        self.assertEqual([sign_at((3, {"L": last_row(3)}), "L", n) for n in range(10)], [0, 1, 2] + [1] * 3 + [2] * 3 + [1])

    def test_several_rows_and_worlds_in_turn(self):
        worlds = {base: world_of(base) for base in BASES}
        numbers = {base: numbers_for(base) for base in BASES}
        for spot in range(len(numbers[2])):
            for base in BASES:
                number = numbers[base][spot]
                by_hand = signs_by_hand(base, number)
                told = {name: sign_at(worlds[base], name, number) for name in worlds[base][1]}
                self.assertEqual(told, by_hand)
                self.assertTrue(all(type(sign) is int for sign in told.values()))

    def test_thousands_of_figures(self):
        for base in BASES:
            world = world_of(base)
            for number in (base ** 4000, base ** 4000 - 1, (base - 1) * base ** 4000 + 1):
                for name, sign in signs_by_hand(base, number).items():
                    self.assertEqual(sign_at(world, name, number), sign)

    def test_thirty_rooms(self):
        for base in BASES:
            moves = tuple(tuple((room + figure) % 30 for figure in range(base)) for room in range(30))
            row = (tuple(room % 10 for room in range(30)), moves)
            self.assertIsNone(look_world((base, {"R": row})))
            for number in numbers_for(base)[:60]:
                figures = figures_by_hand(base, number, places_for(base, number))
                self.assertEqual(sign_at((base, {"R": row}), "R", number), sum(figures) % 30 % 10)


class WorldTest(unittest.TestCase):
    def refused(self, world, name):
        with self.assertRaises(NoRow) as caught:
            look_world(world)
        self.assertEqual(caught.exception.name, name)

    def test_right_worlds(self):
        for base in BASES:
            rows = world_of(base)[1]
            for many in range(5):
                for names in itertools.permutations(rows, many):
                    self.assertIsNone(look_world((base, {name: rows[name] for name in names})))

    def test_nought_may_lead_to_another_room_of_like_sign(self):
        for base in BASES:
            row = ((3, 3, 1), ((1,) + (2,) * (base - 1), (0,) * base, (2,) * base))
            self.assertIsNone(look_world((base, {"A": row})))

    def test_other_figures_may_lead_to_another_sign(self):
        for base in BASES:
            self.assertIsNone(look_world((base, {"A": last_row(base)})))

    def test_each_wrong_thing_by_itself(self):
        for base in BASES:
            for words, row in wrong_rows(base).items():
                with self.subTest(base=base, fault=words):
                    self.refused((base, {"BAD": row}), "BAD")

    def test_a_row_right_in_one_base_alone(self):
        for base, other in itertools.permutations(BASES, 2):
            self.assertIsNone(look_world((base, {"A": sum_row(base, 3)})))
            self.refused((other, {"A": sum_row(base, 3)}), "A")

    def test_the_wrong_one_among_right_ones(self):
        for base in BASES:
            for name in ("T", "A", "LAS", "F"):
                rows = world_of(base)[1]
                rows[name] = wrong_rows(base)["nought to another sign"]
                self.refused((base, rows), name)

    def test_the_first_by_the_order_of_texts_whatever_the_dict_order(self):
        chance = random.Random(1)
        for base in BASES:
            faults = list(wrong_rows(base).values())
            for names in itertools.permutations(("B", "AB", "ABC", "A"), 4):
                for wrong in (("B", "AB"), ("ABC", "AB"), ("ABC", "B"), ("A", "B", "AB", "ABC"), ("ABC", "AB", "B")):
                    rows = {name: chance.choice(faults) if name in wrong else flat_row(base) for name in names}
                    self.refused((base, rows), min(wrong))

    def test_bounds_are_not_refused(self):
        for base in BASES:
            rows = {name: flat_row(base, 12) for name in ("A", "B", "C", "D", "E", "LONG")}
            rows["R"] = (tuple(range(31)), tuple((room,) * base for room in range(31)))
            self.assertIsNone(look_world((base, rows)))


if __name__ == "__main__":
    unittest.main()
