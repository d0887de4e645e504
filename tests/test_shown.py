"""Point 29: terms, sayings and worlds written as texts."""

import random
import unittest

from figurejudge.shown import show_saying, show_term, show_world
from samples import BASES, deep_saying, random_row, random_saying, says, wide_term, world_of

M, N = (0, (("m", 1),)), (0, (("n", 1),))
NAMES = ("a", "n", "mn", "xyz", "ba", "nos", "q")
ROWS = ("A", "BC", "XYZ")


def term_by_hand(term):
    number, parts = term
    text = "".join(f"+{'' if times == 1 else times}{name}" for name, times in parts)
    if number or not parts:
        text += f"+{number}"
    return text[1:]


def saying_by_hand(saying):
    word = saying[0]
    if word in ("same", "less"):
        return f"{term_by_hand(saying[1])} {'=' if word == 'same' else '<'} {term_by_hand(saying[2])}"
    if word == "sign":
        return f"{saying[1]}[{term_by_hand(saying[2])}] = {saying[3]}"
    if word == "alike":
        return f"{saying[1]}[{term_by_hand(saying[2])}] ~ {saying[3]}[{term_by_hand(saying[4])}]"
    if word == "not":
        return f"not {saying_by_hand(saying[1])}"
    if word in ("and", "or"):
        return f"({saying_by_hand(saying[1])} {word} {saying_by_hand(saying[2])})"
    return f"{word} {saying[1]} {saying_by_hand(saying[2])}"


def world_by_hand(world):
    base, rows = world
    text = f"base {base}"
    for name in sorted(rows):
        text += f"\nrow {name}"
        for sign, leads in zip(*rows[name]):
            text += f" {sign}:{'.'.join(map(str, leads))}"
    return text


def any_world(chance, base):
    """A right world of none to four rows of one to eight rooms, its names in any order."""
    names = chance.sample(("A", "AA", "AB", "B", "Z", "ZZZ", "QXY"), chance.randint(0, 4))
    return base, {name: random_row(chance, base, chance.randint(1, 8)) for name in names}


class ShowTermTest(unittest.TestCase):
    def test_written_out(self):
        for term, text in (
            ((3, (("m", 1), ("n", 2))), "m+2n+3"), (N, "n"), ((0, ()), "0"), ((7, ()), "7"), ((99, ()), "99"),
            ((0, (("abc", 9),)), "9abc"), ((10, (("a", 1), ("ab", 1), ("b", 3))), "a+ab+3b+10"),
            ((1, (("n", 1),)), "n+1"), ((0, (("m", 2), ("n", 1))), "2m+n"),
        ):
            self.assertEqual(show_term(term), text)

    def test_any_term(self):
        chance = random.Random(1)
        for again in range(300):
            term = wide_term(chance, NAMES, chance.choice((0, 9, 99)))
            self.assertEqual(show_term(term), term_by_hand(term))


class ShowSayingTest(unittest.TestCase):
    def test_written_out(self):
        same, less = ("same", N, (0, ())), ("less", (3, (("m", 2),)), N)
        sign, alike = ("sign", "A", N, 0), ("alike", "A", (1, (("n", 1),)), "BC", M)
        for saying, text in (
            (same, "n = 0"), (less, "2m+3 < n"), (sign, "A[n] = 0"), (alike, "A[n+1] ~ BC[m]"),
            (("sign", "XYZ", (0, ()), 9), "XYZ[0] = 9"), (("not", same), "not n = 0"), (("not", ("not", same)), "not not n = 0"),
            (("and", same, less), "(n = 0 and 2m+3 < n)"), (("or", sign, alike), "(A[n] = 0 or A[n+1] ~ BC[m])"),
            (("some", "n", same), "some n n = 0"), (("each", "abc", less), "each abc 2m+3 < n"),
            (("not", ("and", ("some", "n", sign), ("each", "m", ("or", alike, same)))),
             "not (some n A[n] = 0 and each m (A[n+1] ~ BC[m] or n = 0))"),
            (("and", ("and", same, same), ("or", less, less)), "((n = 0 and n = 0) and (2m+3 < n or 2m+3 < n))"),
            (("some", "n", ("each", "m", ("not", less))), "some n each m not 2m+3 < n"),
        ):
            self.assertEqual(show_saying(saying), text)

    def test_any_saying(self):
        chance = random.Random(2)
        for again in range(300):
            saying = random_saying(chance, chance.randint(0, 30), 12, NAMES, ROWS)
            self.assertEqual(show_saying(saying), saying_by_hand(saying))

    def test_deep_sayings(self):
        for deep in (12, 60, 300):
            saying = deep_saying(says("n"), deep)
            self.assertEqual(show_saying(saying), saying_by_hand(saying))
        deep = says("n")
        for again in range(3000):
            deep = ("not", deep)
        self.assertEqual(show_saying(deep), "not " * 3000 + saying_by_hand(says("n")))


class ShowWorldTest(unittest.TestCase):
    def test_written_out(self):
        self.assertEqual(show_world((3, {})), "base 3")
        self.assertEqual(show_world((2, {"T": ((0, 1), ((0, 1), (1, 0)))})), "base 2\nrow T 0:0.1 1:1.0")
        world = (4, {"B": ((7,), ((0, 0, 0, 0),)), "A": ((9, 0), ((0, 1, 1, 1), (1, 0, 0, 0)))})
        self.assertEqual(show_world(world), "base 4\nrow A 9:0.1.1.1 0:1.0.0.0\nrow B 7:0.0.0.0")

    def test_rows_come_by_the_order_of_texts(self):
        flat = ((1,), ((0, 0),))
        text = show_world((2, {"B": flat, "AB": flat, "A": flat, "AAA": flat}))
        self.assertEqual([line.split(" ")[1] for line in text.split("\n")[1:]], ["A", "AAA", "AB", "B"])

    def test_any_world(self):
        for base in BASES:
            chance = random.Random(base)
            for again in range(40):
                world = any_world(chance, base)
                self.assertEqual(show_world(world), world_by_hand(world))
            self.assertEqual(show_world(world_of(base)), world_by_hand(world_of(base)))


if __name__ == "__main__":
    unittest.main()
