"""Point 30: the desk, its answers and its refusals in their order."""

import random
import unittest

from figurejudge.atoms import atom_of
from figurejudge.desk import Desk
from figurejudge.errors import JudgeError, NoRow, NoSaying, NoText, TooMany
from figurejudge.reading import read_saying
from figurejudge.sayings import free_names
from figurejudge.shown import show_saying, show_world
from samples import BASES, holds_by_hand, random_world, sum_row
from test_maker import bounded, plus, small_saying
from test_order import tuples_by_hand
from test_same import table_by_hand

# In the desks' worlds 200 and 201 rooms come up for these.
LET, WIDE = "A[n] ~ A[3m+3]", "A[n] ~ A[3m+4]"


def world_for(base):
    last = tuple((room,) + tuple(range(1, base)) for room in range(base))
    return base, {"A": sum_row(base, 8), "C": sum_row(base, 5), "LA": (tuple(range(base)), last)}


def desk_for(base):
    return Desk(show_world(world_for(base)))


def shown(numbers):
    return " ".join(map(str, numbers))


class DeskTest(unittest.TestCase):
    def refused(self, desk, row, kind, place=None):
        with self.assertRaises(JudgeError, msg=row) as caught:
            desk.say(row)
        self.assertIs(type(caught.exception), kind, row)
        if place is not None:
            self.assertEqual(caught.exception.place, place, row)


class AnswersTest(DeskTest):
    def test_judge(self):
        for base in BASES:
            desk = desk_for(base)
            for saying, truth in (
                ("0 = 0", True), ("3 < 3", False), ("A[1] = 1", True), ("A[0] ~ C[1]", False), ("not 1 < 0", True),
                ("(0 = 0 and 1 = 0)", False), ("(0 = 0 or 1 = 0)", True), ("each m some n m < n", True),
                ("some n each m m < n", False), (f"each n A[n] ~ A[{base}n]", True), ("each n A[n] ~ A[n+1]", False),
                ("each n some m (n = 2m or n = 2m+1)", True), ("each n some m n = 2m", False),
                ("some n (A[n] = 7 and C[n] = 4)", True), ("each n each m (m < n or (n < m or m = n))", True),
                ("each n n = n", True), ("some n 2n = 7", False),
            ):
                self.assertEqual(desk.say(f"judge {saying}"), "true" if truth else "untrue")
                self.assertEqual(desk.say(f"judge not {saying}"), "untrue" if truth else "true")

    def test_where(self):
        for base in BASES:
            desk = desk_for(base)
            for saying, told in (
                ("n = 0", "0"), ("17 < n", "18"), ("m < n", "0 1"), ("n < m", "1 0"), ("n < n", "none"), ("some m 2m = n+1", "1"),
                ("(n < m and k < n)", "0 2 1"), ("2n = 2m+1", "none"), ("k+m = k+m+n+1", "none"),
                ("(n < 50 and 50 < n)", "none"), ("LA[n] = 1", "1"), ("LA[n] = 9", "none"), ("each m m < n", "none"),
                ("(80 < n and n < m)", "82 81"),
            ):
                self.assertEqual(desk.say(f"where {saying}"), told, saying)
            # Both sums come round together where the figures' sum is 39.
            ones, rest = divmod(39, base - 1)
            self.assertEqual(desk.say("where (A[n] = 7 and C[n] = 4)"), str(rest * base ** ones + base ** ones - 1))

    def test_first(self):
        for base in BASES:
            desk = desk_for(base)
            for many in range(1, 10):
                self.assertEqual(desk.say(f"first {many} n = n"), "; ".join(str(number) for number in range(many)))
                self.assertEqual(desk.say(f"first {many} n < 4"), "; ".join(str(number) for number in range(min(many, 4))))
                self.assertEqual(desk.say(f"first {many} (2 < n and n < 7)"),
                                 "; ".join(str(number) for number in range(3, min(3 + many, 7))))
                self.assertEqual(desk.say(f"first {many} n = 5"), "5")
                self.assertEqual(desk.say(f"first {many} n < n"), "none")
                self.assertEqual(desk.say(f"first {many} some m n = 2m+1"), "; ".join(str(2 * k + 1) for k in range(many)))
                self.assertEqual(desk.say(f"first {many} m = n"), "; ".join(f"{number} {number}" for number in range(many)))
            self.assertEqual(desk.say("first 4 m+n < 2"), "0 0; 0 1; 1 0")
            self.assertEqual(desk.say("first 9 k+m+n < 2"), "0 0 0; 0 0 1; 0 1 0; 1 0 0")
            self.assertEqual(desk.say("first 2 k+m+n < 2"), "0 0 0; 0 0 1")

    def test_alike(self):
        for base in BASES:
            desk = desk_for(base)
            self.assertEqual(desk.say("alike n < 1 | n = 0"), "alike 2")
            self.assertEqual(desk.say("alike m < n | not n < m+1"), "alike 2")
            self.assertEqual(desk.say("alike 0 = 0 | 3 < 4"), "alike 1")
            self.assertEqual(desk.say("alike 0 = 1 | 4 < 4"), "alike 1")
            self.assertEqual(desk.say("alike 0 = 0 | 4 < 4"), "part")
            self.assertEqual(desk.say("alike each n n < 5 | some n n < 5"), "part")
            self.assertEqual(desk.say("alike n < 5 | n < 6"), "part 5")
            self.assertEqual(desk.say("alike n < 5 | m < 1"), "part 1 0")
            self.assertEqual(desk.say("alike m = n | k+m = n"), "part 1 0 0")
            self.assertEqual(desk.say("alike m = n | n = m"), "alike 2")
            self.assertEqual(desk.say("alike n = n | 0 = 0"), "alike 1")
            self.assertEqual(desk.say("alike n = n | not m < m"), "alike 1")
            self.assertEqual(desk.say("alike (A[n] = 7 and C[n] = 4) | (C[n] = 4 and A[n] = 7)"), "alike 40")
            ones, rest = divmod(39, base - 1)
            self.assertEqual(desk.say("alike (A[n] = 7 and C[n] = 4) | n < n"), f"part {rest * base ** ones + base ** ones - 1}")

    def test_any_sayings_by_trying_all_tuples(self):
        for base in BASES:
            chance = random.Random(base)
            seen = set()
            for again in range(40):
                world = random_world(chance, base, 3)
                desk = Desk(show_world(world))
                pool = chance.choice((("n",), ("m", "n"), ("k", "m", "n")))
                row = ("sign", "A", plus(chance.randrange(4), **{pool[-1]: 1}), 1)
                saying = chance.choice((small_saying(chance, 0, 0, pool), ("and", row, small_saying(chance, 0, 0, pool)), row,
                                        ("or", ("not", row), small_saying(chance, 0, 0, pool))))
                names = free_names(saying)
                if not names:
                    continue
                places = {1: 5, 2: 3 if base == 2 else 2, 3: 2 if base == 2 else 1}[len(names)]
                known = [shown(numbers) for numbers in tuples_by_hand(base, len(names), places)
                         if holds_by_hand(world, saying, dict(zip(names, numbers)), 0)]
                text = show_saying(saying)
                if known:
                    self.assertEqual(desk.say(f"where {text}"), known[0])
                for many in range(1, 10):
                    told = desk.say(f"first {many} {text}").split("; ")
                    self.assertTrue(told[:len(known)] == known[:many] if known else len(told) <= many)
                    self.assertLessEqual(len(told), many)
                self.assertEqual(desk.say(f"alike {text} | not not {text}"), f"alike {len(table_by_hand(world, saying, saying))}")
                seen.add(len(names))
            self.assertEqual(seen, {1, 2, 3})

    def test_judged_ones_of_few_numbers(self):
        for base in BASES:
            chance = random.Random(base)
            seen = set()
            for again in range(30):
                world = random_world(chance, base, 3)
                desk = Desk(show_world(world))
                inside = ("or", ("sign", "A", plus(0, m=1, n=1), 1), small_saying(chance, 0, 0))
                words = [chance.choice(("some", "each")) for name in range(2)]
                saying = bounded(words[0], "m", 3, bounded(words[1], "n", 4, inside))
                known = {"some": any, "each": all}[words[0]](
                    {"some": any, "each": all}[words[1]](holds_by_hand(world, inside, {"m": m, "n": n}, 0) for n in range(4))
                    for m in range(3))
                self.assertEqual(desk.say(f"judge {show_saying(saying)}"), "true" if known else "untrue")
                seen.add(known)
            self.assertEqual(seen, {True, False})

    def test_a_world_without_rows(self):
        for base in BASES:
            desk = Desk(f"base {base}")
            self.assertEqual(desk.say("judge each m some n m < n"), "true")
            self.refused(desk, "judge A[0] = 0", NoSaying, ())

    def test_deep_sayings(self):
        desk = desk_for(2)
        self.assertEqual(desk.say("judge " + "not " * 700 + "0 = 0"), "true")
        self.assertEqual(desk.say("judge " + "not " * 701 + "0 = 0"), "untrue")
        self.assertEqual(desk.say("where " + "(0 = 0 and " * 240 + "n = 3" + ")" * 240), "3")
        self.assertEqual(desk.say("judge " + "some n each m " * 200 + "0 = 0"), "true")


class RefusedTest(DeskTest):
    def test_a_text_that_is_no_worlds(self):
        for text in ("", "base 5", "base 2\n", "base 2\nrow A", "judge 0 = 0", "base 2\nrow B 0:0.0\nrow A 0:0.0"):
            with self.assertRaises(NoText):
                Desk(text)
        with self.assertRaises(NoRow) as caught:
            Desk("base 2\nrow A 0:0.0\nrow B 0:1.0 1:1.1")
        self.assertEqual(caught.exception.name, "B")

    def test_rows_that_are_none(self):
        for base in BASES:
            desk = desk_for(base)
            for row in (
                "", " ", "judge", "judge ", "where", "where ", "first", "first ", "first 1", "first 1 ", "alike", "alike ",
                "Judge 0 = 0", "judges 0 = 0", " judge 0 = 0", "judge  0 = 0", "judge 0 = 0 ", "judge 0 = 0\n", "0 = 0", "tell 0 = 0",
                "tell n = 0 | n = 0", " n = 0 | n = 0", "n = 0 | n = 0", "Alike n = 0 | n = 0", "where: n = 0", "First 1 n = 0",
                "judge0 = 0", "judge 0=0", "judge (0 = 0)", "judge 0 = 0 | 0 = 0", "judge n", "judge some 0 = 0", "judge 0 = 0 0 = 0",
                "where n=0", "where n = 0 ", "where  n = 0", "where n = 0 | n = 0", "where 1 n = 0", "wheren = 0",
                "first n = 0", "first 0 n = 0", "first 10 n = 0", "first 01 n = 0", "first -1 n = 0", "first a n = 0", "first 1n = 0",
                "first  1 n = 0", "first 1  n = 0", "first 1 2 n = 0", "first 12 n = 0", "first 1 n = 0 ", "first 1 n = 0 | n = 0",
                "first + n = 0", "first 1. n = 0",
                "alike n = 0", "alike n = 0 |", "alike n = 0 | ", "alike | n = 0", "alike  | n = 0", "alike n = 0 n = 0",
                "alike n = 0|n = 0", "alike n = 0 |n = 0", "alike n = 0| n = 0", "alike n = 0  | n = 0", "alike n = 0 |  n = 0",
                "alike n = 0 | n = 0 | n = 0", "alike n = 0 || n = 0", "alike n = 0 | | n = 0", "alike n = 0 | n = 0 ",
                "alike n = 0 | n = 0 |", "alike n=0 | n = 0", "alike n = 0 | n=0", "alike 1 n = 0 | n = 0", "alike  n = 0 | n = 0",
                "alike " + "n = 0 | " * 5 + "n = 0", "judge " + "(" * 2900, "where " + "not " * 700,
            ):
                self.refused(desk, row, NoText)

    def test_what_does_not_fit(self):
        for base in BASES:
            desk = desk_for(base)
            for word in ("judge", "where", "first 3"):
                self.refused(desk, f"{word} B[n] = 0", NoSaying, ())
                self.refused(desk, f"{word} not B[n] = 0", NoSaying, (0,))
                self.refused(desk, f"{word} (A[0] = 0 and not A[0] ~ Z[1])", NoSaying, (1, 0))
                self.refused(desk, f"{word} a+b < c+d", NoSaying, ())
                self.refused(desk, f"{word} some a (a+b < c or not c = d)", NoSaying, (0,))
                self.refused(desk, f"{word} some a some b (a+b < c+d and B[0] = 1)", NoSaying, (0, 0, 0))
            fits, far, wide = "n = 0", "(0 = 0 or B[n] = 0)", "not a+b < c+d"
            self.refused(desk, f"alike {far} | {fits}", NoSaying, (1,))
            self.refused(desk, f"alike {fits} | {far}", NoSaying, (1,))
            self.refused(desk, f"alike {far} | {wide}", NoSaying, (1,))
            self.refused(desk, f"alike {wide} | {far}", NoSaying, (0,))
            self.refused(desk, f"alike {fits} | {wide}", NoSaying, (0,))

    def test_free_names(self):
        for base in BASES:
            desk = desk_for(base)
            for saying in ("n = 0", "m < n", "k+m < n", "some m m < n", "(some n n = 0 and n = 0)", "A[n] = 0", "n = n"):
                self.refused(desk, f"judge {saying}", NoSaying, ())
            for saying in ("0 = 0", "1 = 0", "some n n = 0", "each m some n m < n", "A[3] = 0", "not 1 < 0"):
                self.refused(desk, f"where {saying}", NoSaying, ())
                for many in (1, 9):
                    self.refused(desk, f"first {many} {saying}", NoSaying, ())
            for pair in ("a = b | c = d", "a+b < c | d = 0", "d = 0 | a+b < c", "a+b < c | b+c < d"):
                self.refused(desk, f"alike {pair}", NoSaying, ())
            self.assertEqual(desk.say("alike a+b < c | not c < a+b+1")[:6], "alike ")
            self.assertEqual(desk.say("alike a = b | b = c"), "part 0 0 1")

    def test_too_many_rooms(self):
        for base in BASES:
            desk = desk_for(base)
            world = world_for(base)
            self.assertEqual([len(atom_of(world, read_saying(text))[1]) for text in (LET, WIDE)], [200, 201])
            self.assertEqual(desk.say(f"judge some m some n {LET}"), "true")
            self.refused(desk, f"judge some m some n {WIDE}", TooMany, (0, 0))
            self.refused(desk, f"judge some m (0 = 0 or each n {WIDE})", TooMany, (0, 1, 0))
            for word in ("where", "first 2"):
                self.assertNotEqual(desk.say(f"{word} {LET}"), "none")
                self.refused(desk, f"{word} {WIDE}", TooMany, ())
                self.refused(desk, f"{word} not (n = 0 and {WIDE})", TooMany, (0, 1))
            self.assertEqual(desk.say(f"alike {LET} | not not {LET}")[:6], "alike ")
            self.refused(desk, f"alike {WIDE} | n = 0", TooMany, ())
            self.refused(desk, f"alike n = 0 | {WIDE}", TooMany, ())
            self.refused(desk, f"alike not {WIDE} | {WIDE}", TooMany, (0,))
            self.refused(desk, f"alike {WIDE} | not {WIDE}", TooMany, ())
            self.refused(desk, f"alike n = 0 | (n = 0 and not {WIDE})", TooMany, (1, 0))

    def test_pairs_have_no_bound(self):
        for base in BASES:
            desk = desk_for(base)
            self.assertEqual(desk.say(f"alike {LET} | (A[n] = 7 and C[m] = 4)")[:5], "part ")

    def test_the_order_of_refusals(self):
        for base in BASES:
            desk = desk_for(base)
            # A text that is none ahead of all, in whichever saying.
            for one in ("B[n] = 0", "a = b", WIDE):
                self.refused(desk, f"alike {one} | n=0", NoText)
                self.refused(desk, f"alike n=0 | {one}", NoText)
                self.refused(desk, f"alike {one} | {one} | {one}", NoText)
                self.refused(desk, f"first 0 {one}", NoText)
            # What doesn't fit ahead of free names and of rooms.
            self.refused(desk, f"judge ({WIDE} or B[n] = 0)", NoSaying, (1,))
            self.refused(desk, "judge (n = 0 or B[0] = 0)", NoSaying, (1,))
            self.refused(desk, "where (0 = 0 or B[0] = 0)", NoSaying, (1,))
            self.refused(desk, "first 2 not B[0] = 0", NoSaying, (0,))
            self.refused(desk, f"alike {WIDE} | not B[n] = 0", NoSaying, (0,))
            self.refused(desk, "alike a+b = c | (d = 0 and B[0] = 0)", NoSaying, (1,))
            # Free names ahead of rooms.
            self.refused(desk, f"judge not {WIDE}", NoSaying, ())
            self.refused(desk, f"where some m some n {WIDE}", NoSaying, ())
            self.refused(desk, f"first 1 some m some n {WIDE}", NoSaying, ())
            self.refused(desk, f"alike not {WIDE} | j = k", NoSaying, ())
            self.refused(desk, f"alike j = k | not {WIDE}", NoSaying, ())


class AgainTest(DeskTest):
    rows = ("judge each m some n m < n", "where 17 < n", "first 5 m < n", "alike n < 5 | n < 6", "alike n < 1 | n = 0",
            "where A[n] = 1", "judge each n A[n] ~ A[2n]", "judge n = 0", "where B[n] = 0", f"where {WIDE}", "first 0 n = 0", "")

    def told(self, desk, row):
        try:
            return desk.say(row)
        except JudgeError as error:
            return type(error).__name__, vars(error)

    def test_asked_again_and_with_another_between(self):
        for base in BASES:
            known = [self.told(desk_for(base), row) for row in self.rows]
            desk = desk_for(base)
            for again in range(2):
                for row, told in zip(self.rows, known):
                    self.assertEqual(self.told(desk, row), told)
                    other = Desk("base 4\nrow A 3:0.0.0.0")
                    self.told(other, row)
                    self.assertEqual(self.told(desk, row), told)

    def test_desks_have_their_own_worlds(self):
        one, other = Desk("base 2\nrow A 3:0.0"), Desk("base 3\nrow A 4:0.0.0\nrow B 1:0.0.0")
        for again in range(2):
            self.assertEqual(one.say("judge A[5] = 3"), "true")
            self.assertEqual(other.say("judge A[5] = 3"), "untrue")
            self.assertEqual(other.say("judge each n B[n] = 1"), "true")
            self.refused(one, "judge each n B[n] = 1", NoSaying, (0,))

    def test_answers_are_texts(self):
        desk = desk_for(2)
        for row in self.rows[:7]:
            self.assertIs(type(desk.say(row)), str)


if __name__ == "__main__":
    unittest.main()
