"""Points 3, 4 and 5: figures, letters, and which tuple is ahead."""

import itertools
import random
import unittest

from figurejudge.figures import all_letters, figures_of, is_ahead, letters_of, number_of, numbers_of
from samples import BASES, figures_by_hand, numbers_for


def letters_by_hand(base, numbers, places):
    columns = [figures_by_hand(base, number, places) for number in numbers]
    return [tuple(column[place] for column in columns) for place in range(places)]


def ahead_by_hand(base, one, other, places):
    """By the words of point 5: the greatest place where the letters differ, there the lesser letter."""
    left, right = letters_by_hand(base, one, places), letters_by_hand(base, other, places)
    for place in reversed(range(places)):
        if left[place] != right[place]:
            return left[place] < right[place]
    return False


class WholeNumbers(unittest.TestCase):
    def assert_whole(self, some):
        for number in some:
            self.assertIs(type(number), int)


class FiguresTest(WholeNumbers):
    def test_written_out(self):
        self.assertEqual(figures_of(2, 6), [0, 1, 1])
        self.assertEqual(figures_of(3, 7), [1, 2])
        self.assertEqual(figures_of(4, 27), [3, 2, 1])
        self.assertEqual(figures_of(2, 1), [1])
        self.assertEqual(figures_of(4, 3), [3])
        self.assertEqual(figures_of(4, 4), [0, 1])

    def test_nought_has_no_figures(self):
        for base in BASES:
            self.assertEqual(figures_of(base, 0), [])

    def test_figures_come_to_the_number(self):
        for base in BASES:
            for number in numbers_for(base):
                figures = figures_of(base, number)
                self.assertIs(type(figures), list)
                self.assert_whole(figures)
                self.assertTrue(all(0 <= figure < base for figure in figures))
                self.assertTrue(number == sum(figure * base ** j for j, figure in enumerate(figures)))
                self.assertTrue(not figures or figures[-1] != 0)

    def test_powers_and_those_beside_them(self):
        for base in BASES:
            for places in (1, 2, 3, 10, 400, 3000):
                self.assertEqual(figures_of(base, base ** places), [0] * places + [1])
                self.assertEqual(figures_of(base, base ** places - 1), [base - 1] * places)
                self.assertEqual(figures_of(base, base ** places + 1), [1] + [0] * (places - 1) + [1])

    def test_number_of_reads_them_back(self):
        for base in BASES:
            for number in numbers_for(base):
                self.assertTrue(number_of(base, figures_of(base, number)) == number)

    def test_noughts_behind_are_let_by(self):
        for base in BASES:
            for number in numbers_for(base):
                for noughts in (1, 2, 50):
                    told = number_of(base, figures_of(base, number) + [0] * noughts)
                    self.assertTrue(told == number)

    def test_no_figures_and_noughts_alone(self):
        for base in BASES:
            for noughts in (0, 1, 2, 3, 2000):
                told = number_of(base, [0] * noughts)
                self.assertEqual(told, 0)
                self.assert_whole([told])


class LettersTest(WholeNumbers):
    def test_all_letters_written_out(self):
        self.assertEqual(all_letters(2, 0), [()])
        self.assertEqual(all_letters(3, 1), [(0,), (1,), (2,)])
        self.assertEqual(all_letters(2, 2), [(0, 0), (0, 1), (1, 0), (1, 1)])

    def test_all_letters_in_the_order_of_tuples(self):
        for base in BASES:
            for many in range(4):
                letters = all_letters(base, many)
                self.assertIs(type(letters), list)
                self.assertEqual(letters, list(itertools.product(range(base), repeat=many)))
                self.assertEqual(len(letters), base ** many)
                self.assertEqual(letters, sorted(set(letters)))
                self.assertEqual(letters[0], (0,) * many)
                for letter in letters:
                    self.assertIs(type(letter), tuple)
                    self.assert_whole(letter)

    def test_letters_of_written_out(self):
        self.assertEqual(letters_of(2, (1, 2)), [2, 1])
        self.assertEqual(letters_of(2, (6,)), [0, 1, 1])
        self.assertEqual(letters_of(3, (5, 0)), [6, 3])
        self.assertEqual(letters_of(3, (0, 5)), [2, 1])
        self.assertEqual(letters_of(4, (1, 2, 3)), [16 + 8 + 3])
        self.assertEqual(letters_of(4, (0, 0, 4)), [0, 1])

    def test_letters_of_nothing_and_of_noughts(self):
        for base in BASES:
            for many in range(4):
                self.assertEqual(letters_of(base, (0,) * many), [])

    def test_letters_of_up_to_the_last_figure_of_all(self):
        for base in BASES:
            for numbers in tuples_for(base):
                told = letters_of(base, numbers)
                places = max([len(figures_of(base, number)) for number in numbers], default=0)
                letters = all_letters(base, len(numbers))
                self.assertIs(type(told), list)
                self.assert_whole(told)
                self.assertEqual([letters[k] for k in told], letters_by_hand(base, numbers, places))

    def test_numbers_of_reads_them_back(self):
        for base in BASES:
            for numbers in tuples_for(base):
                for noughts in (0, 1, 7):
                    told = numbers_of(base, len(numbers), letters_of(base, numbers) + [0] * noughts)
                    self.assertIs(type(told), tuple)
                    self.assert_whole(told)
                    self.assertTrue(told == numbers)

    def test_numbers_of_no_letters_and_of_noughts(self):
        for base in BASES:
            for many in range(4):
                for noughts in (0, 1, 2, 30):
                    self.assertEqual(numbers_of(base, many, [0] * noughts), (0,) * many)

    def test_numbers_of_every_letter_by_itself(self):
        for base in BASES:
            for many in range(4):
                for k, letter in enumerate(all_letters(base, many)):
                    self.assertEqual(numbers_of(base, many, [k]), letter)
                    self.assertEqual(numbers_of(base, many, [0, k]), tuple(base * figure for figure in letter))


def tuples_for(base):
    """Tuples of none to three numbers: all small ones, and some of numbers of all lengths."""
    chance = random.Random(7 * base)
    found = [()]
    for many in (1, 2, 3):
        found += list(itertools.product(range(6), repeat=many))
    numbers = numbers_for(base)
    for many in (1, 2, 3):
        found += [tuple(chance.choice(numbers) for spot in range(many)) for again in range(25)]
    found += [(base ** 2000,), (0, base ** 2000 - 1), (base ** 40, 0, base ** 2000)]
    return found


class AheadTest(unittest.TestCase):
    def test_written_out(self):
        self.assertIs(is_ahead(2, (1, 1), (2, 0)), True)
        self.assertIs(is_ahead(2, (2, 0), (1, 1)), False)
        self.assertIs(is_ahead(2, (0, 2), (2, 0)), True)
        self.assertIs(is_ahead(2, (1, 2), (0, 3)), False)
        self.assertIs(is_ahead(4, (3, 3, 3), (0, 0, 4)), True)
        self.assertIs(is_ahead(3, (0, 0, 9), (8, 8, 8)), False)

    def test_a_tuple_is_not_ahead_of_itself(self):
        for base in BASES:
            for numbers in tuples_for(base):
                self.assertIs(is_ahead(base, numbers, numbers), False)

    def test_of_single_numbers_the_lesser(self):
        for base in BASES:
            numbers = [number for number in numbers_for(base) if number < base ** 400]
            for one, other in itertools.product(numbers, repeat=2):
                self.assertIs(is_ahead(base, (one,), (other,)), one < other)

    def test_of_thousands_of_figures(self):
        for base in BASES:
            great = base ** 3000
            for one, other in ((great - 1, great), (great, great + 1), (great + 1, great + base), (0, great)):
                self.assertIs(is_ahead(base, (one,), (other,)), True)
                self.assertIs(is_ahead(base, (other,), (one,)), False)
                self.assertIs(is_ahead(base, (5, one), (4, other)), ahead_by_hand(base, (5, one), (4, other), 3002))

    def test_by_the_words_of_the_point(self):
        for base in BASES:
            for many in (2, 3):
                some = list(itertools.product(range(base + 2), repeat=many))
                for one, other in itertools.product(some, repeat=2):
                    self.assertIs(is_ahead(base, one, other), ahead_by_hand(base, one, other, 4))

    def test_by_the_words_of_the_point_of_longer_numbers(self):
        chance = random.Random(5)
        for base in BASES:
            for again in range(300):
                many, places = chance.randrange(1, 4), chance.choice((5, 60, 300))
                one = [chance.randrange(base ** places) for spot in range(many)]
                # Altered at one low place in one number, so the deciding place lies anywhere.
                other = list(one)
                other[chance.randrange(many)] += base ** chance.randrange(places)
                for left, right in ((one, other), (other, one)):
                    told = is_ahead(base, tuple(left), tuple(right))
                    self.assertIs(told, ahead_by_hand(base, left, right, places + 2))

    def test_sorting_by_it_is_an_order_without_gaps(self):
        for base in BASES:
            some = list(itertools.product(range(base ** 2), repeat=2))
            places = [sum(is_ahead(base, other, one) for other in some) for one in some]
            self.assertEqual(sorted(places), list(range(len(some))))


if __name__ == "__main__":
    unittest.main()
