"""Points 6, 7 and 29: sayings and worlds read from texts, and each other text refused."""

import random
import string
import unittest

from figurejudge.errors import JudgeError, NoRow, NoText
from figurejudge.reading import read_saying, read_world
from figurejudge.shown import show_saying, show_world
from samples import BASES, deep_saying, random_saying, says, term, wide_term, world_of
from test_shown import NAMES, ROWS, any_world, saying_by_hand, world_by_hand

# All signs that a text may have: from the blank to the last but the percent sign.
SIGNS = "".join(sign for sign in map(chr, range(32, 127)) if sign != "%")
PIECES = ("not ", "some ", "each ", " and ", " or ", "(", ")", " ", " = ", " < ", " ~ ", "A[", "]", "n", "m", "+", "0", "1",
          "2", "10", "\n", "|", "some n ", "each m ", "(n = 0", "[", "Z", "n+1")


def good_term(told):
    """Whether a told term is of a form that can be written."""
    number, parts = told
    names = [name for name, times in parts]
    return (0 <= number <= 99 and names == sorted(set(names)) and all(1 <= times <= 9 for name, times in parts)
            and all(good_name(name) for name in names))


def good_name(name):
    return 1 <= len(name) <= 3 and set(name) <= set(string.ascii_lowercase) and name not in ("not", "and", "or")


def good_row(name):
    return 1 <= len(name) <= 3 and set(name) <= set(string.ascii_uppercase)


def good_saying(told):
    word = told[0]
    if word in ("same", "less"):
        return good_term(told[1]) and good_term(told[2])
    if word == "sign":
        return good_row(told[1]) and good_term(told[2]) and told[3] in range(10)
    if word == "alike":
        return good_row(told[1]) and good_term(told[2]) and good_row(told[3]) and good_term(told[4])
    if word in ("some", "each"):
        return good_name(told[1]) and good_saying(told[2])
    return word in ("not", "and", "or") and all(good_saying(part) for part in told[1:])


class Reading(unittest.TestCase):
    def refused(self, text, reader=read_saying):
        with self.assertRaises(NoText, msg=repr(text)) as caught:
            reader(text)
        self.assertIs(type(caught.exception), NoText)

    def read(self, text, saying):
        told = read_saying(text)
        self.assertEqual(told, saying)
        self.assertEqual(show_saying(told), text)


class ReadSayingTest(Reading):
    def test_terms(self):
        for text, told in (("0", (0, ())), ("7", (7, ())), ("10", (10, ())), ("99", (99, ())), ("n", (0, (("n", 1),))),
                           ("2n", (0, (("n", 2),))), ("9abc", (0, (("abc", 9),))), ("n+1", (1, (("n", 1),))),
                           ("m+2n+3", (3, (("m", 1), ("n", 2)))), ("a+ab+3b+10", (10, (("a", 1), ("ab", 1), ("b", 3)))),
                           ("no+nos", (0, (("no", 1), ("nos", 1)))), ("som", (0, (("som", 1),))),
                           ("an+ant+o", (0, (("an", 1), ("ant", 1), ("o", 1))))):
            zero = (0, ())
            self.read(f"{text} = 0", ("same", told, zero))
            self.read(f"0 = {text}", ("same", zero, told))
            self.read(f"{text} < 0", ("less", told, zero))
            self.read(f"0 < {text}", ("less", zero, told))
            self.read(f"A[{text}] = 5", ("sign", "A", told, 5))
            self.read(f"A[{text}] ~ B[0]", ("alike", "A", told, "B", zero))
            self.read(f"A[0] ~ B[{text}]", ("alike", "A", zero, "B", told))

    def test_terms_that_are_none(self):
        for text in ("", "00", "01", "09", "100", "123", "1000", "0n", "1n", "10n", "11n", "22n", "02n", "n2", "n+0", "n+00", "n+01",
                     "3+n", "0+n", "n+3+m", "3+4", "n+3+4", "n+n", "n+2n", "n+m", "b+a+c", "a+c+b", "b+ab", "N", "nN", "2N",
                     "abcd", "some", "each", "not", "and", "or", "2or", "n+not", "and+n", "+", "n+", "+n", "n++m", "n+100",
                     "n +m", "n+ m", "n + m", "2 n", " n", "n ", "n-1", "-1", "n*2", "2*n", "n_", "(n)", "n.", "n,m", "A",
                     "n[0]", "1.0", "2nn+2nn", "nnn2", "2+"):
            for around in ("{} = 0", "0 = {}", "{} < 0", "0 < {}", "A[{}] = 5", "A[{}] ~ B[0]", "A[0] ~ B[{}]", "not {} = 0"):
                self.refused(around.replace("{}", text))

    def test_more_names_than_three_are_read(self):
        self.read("a+b+c+d+2e+1 < f", ("less", (1, (("a", 1), ("b", 1), ("c", 1), ("d", 1), ("e", 2))), (0, (("f", 1),))))

    def test_each_form(self):
        n, zero = (0, (("n", 1),)), (0, ())
        same = ("same", n, zero)
        for text, saying in (
            ("n = 0", same), ("n < 0", ("less", n, zero)), ("A[n] = 0", ("sign", "A", n, 0)), ("ABC[n] = 9", ("sign", "ABC", n, 9)),
            ("A[n] ~ A[0]", ("alike", "A", n, "A", zero)), ("not n = 0", ("not", same)), ("not not n = 0", ("not", ("not", same))),
            ("(n = 0 and n = 0)", ("and", same, same)), ("(n = 0 or n = 0)", ("or", same, same)),
            ("some n n = 0", ("some", "n", same)), ("each abc n = 0", ("each", "abc", same)),
            ("((n = 0 or n = 0) and not n = 0)", ("and", ("or", same, same), ("not", same))),
            ("(n = 0 or (n = 0 and some m n = 0))", ("or", same, ("and", same, ("some", "m", same)))),
            ("not (some n n = 0 or each m (n = 0 and n = 0))",
             ("not", ("or", ("some", "n", same), ("each", "m", ("and", same, same))))),
            ("some m each n not A[n] = 3", ("some", "m", ("each", "n", ("not", ("sign", "A", n, 3))))),
            ("some no n = 0", ("some", "no", same)), ("each so n = 0", ("each", "so", same)),
        ):
            self.read(text, saying)

    def test_texts_that_are_none(self):
        for text in (
            "", " ", "0", "n", "n =", "n = ", "= n", " = n", "n=0", "n = 0 ", " n = 0", "n  = 0", "n =  0", "n= 0", "n =0", "n<0",
            "n <0", "n > 0", "n == 0", "n ~ 0", "n = 0 = 0", "n < 0 < 0", "n <= 0", "n = 0\n", "\nn = 0", "n = 0\t",
            "A[n]", "A[n] = ", "A[n] =", "A[n]=0", "A[n] = 10", "A[n] = 00", "A[n] = n", "A[n] = -1", "A[n] < 0", "A[n = 0", "A n] = 0",
            "A[] = 0", "A[n]] = 0", "A[[n]] = 0", "A [n] = 0", "A[ n] = 0", "A[n ] = 0", "[n] = 0", "a[n] = 0", "Aa[n] = 0",
            "ABCD[n] = 0", "A1[n] = 0", "0 = A[n]", "n = A[n]", "A[n] = B[n]", "A[n] ~ 0", "A[n] ~ B", "A[n] ~ B[", "A[n]~B[n]",
            "A[n] ~ b[n]", "A[n] ~ ABCD[n]", "A[n] ~ B[n] ", "A[n] ~ B[n] ~ C[n]", "A[n] ~ B[n] = 0", "A[n] ~  B[n]", "A(n) = 0",
            "not", "not ", "not  n = 0", "notn = 0", "Not n = 0", "not(n = 0)", "not (n = 0)", "(not n = 0)", "(n = 0)", "()",
            "n = 0 and n = 0", "n = 0 or n = 0", "(n = 0 and n = 0", "n = 0 and n = 0)", "(n = 0 and n = 0))", "((n = 0 and n = 0)",
            "(n = 0 and)", "(n = 0 and )", "(and n = 0)", "( and n = 0)", "(n = 0 and n = 0 and n = 0)", "(n = 0 & n = 0)",
            "( n = 0 and n = 0)", "(n = 0 and n = 0 )", "(n = 0  and n = 0)", "(n = 0 and  n = 0)", "(n = 0and n = 0)",
            "(n = 0 andn = 0)", "(n = 0 AND n = 0)", "(n = 0 xor n = 0)", "(n = 0 not n = 0)", "(n = 0 n = 0)", "(n = 0, n = 0)",
            "(n = 0 and or n = 0)", "[n = 0 and n = 0]", "(n = 0 and n = 0) ", " (n = 0 and n = 0)", "(n = 0 and n = 0) and n = 0",
            "(n = 0 and n = 0)(n = 0 and n = 0)", "(n = 0 and (n = 0 or n = 0)",
            "some", "some ", "some n", "some n ", "some  n n = 0", "some n  n = 0", "some N n = 0", "some nn1 n = 0", "some 2n n = 0",
            "some abcd n = 0", "some some n = 0", "some each n = 0", "some not n = 0", "some and n = 0", "some or n = 0",
            "each not n = 0", "each and n = 0", "each or n = 0", "each some n = 0", "each A n = 0", "each n,m n = 0", "each 0 n = 0",
            "each  n = 0", "some n = 0", "each n = 0", "somen n = 0", "Some n n = 0", "any n n = 0", "some n: n = 0", "some n m n = 0",
            "each n", "each n ", "each n each", "some n not", "judge n = 0", "n = 0 | n = 0", "n = 0;", "'n = 0'", "some +n n = 0",
        ):
            self.refused(text)

    def test_written_and_read(self):
        chance = random.Random(1)
        for again in range(300):
            saying = random_saying(chance, chance.randint(0, 30), 12, NAMES, ROWS)
            self.read(saying_by_hand(saying), saying)

    def test_many_times_and_numbers(self):
        chance = random.Random(2)
        for again in range(200):
            saying = ("less", wide_term(chance, NAMES), wide_term(chance, NAMES, 9))
            self.read(saying_by_hand(saying), saying)

    def test_cut_off_anywhere(self):
        for text in ("not (some n A[2n+10] = 3 or each mn (m < n+21 and A[m] ~ BCD[3n+4]))", "(n = 0 and not m+2n+3 < 17)"):
            read_saying(text)
            for end in range(len(text)):
                self.refused(text[:end])
            for start in range(1, len(text)):
                part = text[start:]
                try:
                    self.assertEqual(saying_by_hand(read_saying(part)), part)
                except NoText:
                    pass

    def test_changed_anywhere(self):
        chance = random.Random(3)
        read = 0
        for again in range(4000):
            text = saying_by_hand(random_saying(chance, chance.randint(0, 6), 4, NAMES, ROWS))
            for change in range(chance.randint(1, 2)):
                at, more = chance.randrange(len(text) + 1), chance.choice((chance.choice(SIGNS), chance.choice(PIECES), ""))
                text = text[:at] + more + text[at + chance.choice((0, 0, 1, 1, 4)):]
            try:
                told = read_saying(text)
            except JudgeError as error:
                self.assertIs(type(error), NoText)
                continue
            # What is read is of a form that is written so, and by these very signs.
            self.assertTrue(good_saying(told), text)
            self.assertEqual(saying_by_hand(told), text)
            read += 1
        self.assertGreater(read, 300)

    def test_all_short_texts(self):
        # All texts of five signs of a few: those alone are read that can be written.
        signs = "n0 =<1N+"
        texts = [""]
        for length in range(5):
            texts = [text + sign for text in texts for sign in signs]
        for text in texts:
            good = (text[1:4] in (" = ", " < ")) and all(side in ("n", "0", "1") for side in (text[0], text[4]))
            if good:
                self.assertEqual(saying_by_hand(read_saying(text)), text)
            else:
                self.refused(text)

    def test_bounds_are_not_looked_at(self):
        wide = says("n")
        for again in range(80):
            wide = ("or", wide, says("m", "n"))
        self.read(saying_by_hand(wide), wide)
        self.read("(QQ[a+b+c+d] = 1 and QQQ[e] = 1)",
                  ("and", ("sign", "QQ", (0, (("a", 1), ("b", 1), ("c", 1), ("d", 1))), 1), ("sign", "QQQ", term(0, "e"), 1)))

    def test_texts_that_open_as_many_parts_as_they_can(self):
        for opening in ("(", "not ", "some n ", "each m ", "(not ", "(n = 0 and ", "not (", "((", "(0 = 0 or not "):
            text = opening * (3000 // len(opening))
            self.refused(text)
            self.refused(text[:-1])
            self.refused(text + "n = 0" if "(" in opening else text + "n = ")
        for opening in ("not ", "some n ", "each m ", "not some n each m "):
            many = (3000 - 5) // len(opening)
            told = read_saying(opening * many + "n = 0")
            self.assertEqual(show_saying(told), opening * many + "n = 0")
            self.refused(opening * many + "n = 0)")
        for opening, closing in (("(0 = 0 and ", ")"), ("(0 = 0 or not ", ")"), ("(", " or 0 = 0)"), ("some n (", " and 1 < 0)")):
            many = (3000 - 5) // len(opening + closing)
            text = opening * many + "n = 0" + closing * many
            self.assertEqual(show_saying(read_saying(text)), text)
            self.refused(text[:-1])
            self.refused(text + ")")
            self.refused(text[1:])
        self.refused("n = 0" + ")" * 2990)
        self.refused("n" * 3000)
        self.refused("n+" * 1500)
        self.refused("9" * 3000)
        self.refused(" " * 3000)

    def test_deep_sayings_written_and_read(self):
        for deep in (12, 60, 200):
            saying = deep_saying(says("n"), deep)
            self.read(saying_by_hand(saying), saying)

    def test_what_is_told_is_of_plain_kinds(self):
        told = read_saying("some n (A[2n+10] = 3 and n < 7)")
        self.assertEqual(repr(told), "('some', 'n', ('and', ('sign', 'A', (10, (('n', 2),)), 3), "
                                     "('less', (0, (('n', 1),)), (7, ()))))")


class ReadWorldTest(Reading):
    def none(self, text):
        self.refused(text, read_world)

    def wrong_row(self, text, name):
        with self.assertRaises(NoRow) as caught:
            read_world(text)
        self.assertIs(type(caught.exception), NoRow)
        self.assertEqual(caught.exception.name, name)

    def test_written_out(self):
        self.assertEqual(read_world("base 2"), (2, {}))
        self.assertEqual(read_world("base 2\nrow T 0:0.1 1:1.0"), (2, {"T": ((0, 1), ((0, 1), (1, 0)))}))
        self.assertEqual(read_world("base 4\nrow A 9:0.1.1.1 0:1.0.0.0\nrow B 7:0.0.0.0"),
                         (4, {"A": ((9, 0), ((0, 1, 1, 1), (1, 0, 0, 0))), "B": ((7,), ((0, 0, 0, 0),))}))

    def test_written_and_read(self):
        for base in BASES:
            chance = random.Random(base)
            seen = set()
            for again in range(80):
                world = any_world(chance, base)
                told = read_world(world_by_hand(world))
                self.assertEqual(told, world)
                self.assertEqual(list(told[1]), sorted(world[1]))
                self.assertEqual(read_world(show_world(world)), world)
                seen.update([("rows", len(world[1]))] + [("rooms", len(row[0])) for row in world[1].values()])
            self.assertEqual(len(seen), 5 + 8)
            self.assertEqual(read_world(show_world(world_of(base))), world_of(base))

    def test_its_first_row(self):
        for text in ("", " ", "base", "base ", "base 0", "base 1", "base 5", "base 9", "base 10", "base 22", "base 02", "base  2",
                     " base 2", "base 2 ", "Base 2", "base2", "base K", "base 2.", "base -2", "2", "row A 0:0.0", "base 2 row A 0:0.0",
                     "\nbase 2", "base 2\nbase 2", "base\n2"):
            self.none(text)
            self.none(text + "\nrow A 0:0.0")
        for base in BASES:
            self.assertEqual(read_world(f"base {base}"), (base, {}))

    def test_rows_that_are_none(self):
        for row in ("", " ", "row", "row ", "row A", "row A ", "row  A 0:0.0", "row A  0:0.0", " row A 0:0.0", "row A 0:0.0 ",
                    "Row A 0:0.0", "rows A 0:0.0", "A 0:0.0", "row 0:0.0", "row a 0:0.0", "row Aa 0:0.0", "row ABCD 0:0.0", "row A1 0:0.0",
                    "row A 0", "row A 0:", "row A :0.0", "row A 0:0", "row A 0:0.0.0", "row A 0:0.", "row A 0:.0", "row A 0:00",
                    "row A 00:0.0", "row A 10:0.0", "row A 0:0.00", "row A 0:00.0", "row A 0:0.10", "row A 0:0,0", "row A 0.0:0",
                    "row A 0:0:0", "row A 0:0.0:0", "row A a:0.0", "row A 0:a.0", "row A -1:0.0", "row A 0:-1.0", "row A 0:0.0,0:0.0",
                    "row A 0:0.0 0", "row A 0:0.0 row", "row A 0: 0.0", "row A 0 :0.0", "row A:0:0.0", "row A 0:0.0\t", "row A 0:0 .0",
                    "row A 0:0..0", "row A 0::0.0", "row A 0:0.0|", "row A B 0:0.0"):
            self.none(f"base 2\n{row}")
            self.none(f"base 2\n{row}\nrow Z 0:0.0")
            self.none(f"base 2\nrow AA 0:0.0\n{row}")

    def test_moves_more_or_fewer_than_the_base(self):
        for base in BASES:
            for many in range(7):
                row = "row A 3:" + ".".join("0" * many)
                if many == base:
                    self.assertEqual(read_world(f"base {base}\n{row}"), (base, {"A": ((3,), ((0,) * base,))}))
                else:
                    self.none(f"base {base}\n{row}")
                    self.none(f"base {base}\nrow A 3:{'.'.join('0' * base)} 3:{'.'.join('0' * many)}")

    def test_one_to_eight_rooms(self):
        for base in BASES:
            room = " 3:" + ".".join("0" * base)
            for rooms in range(1, 9):
                self.assertEqual(read_world(f"base {base}\nrow A{room * rooms}"),
                                 (base, {"A": ((3,) * rooms, ((0,) * base,) * rooms)}))
            self.none(f"base {base}\nrow A")
            for rooms in (9, 10, 30):
                self.none(f"base {base}\nrow A{room * rooms}")

    def test_names_in_order_each_once_at_most_four(self):
        rows = lambda *names: "base 2" + "".join(f"\nrow {name} 1:0.0" for name in names)
        for names in (("A",), ("A", "B"), ("A", "AA", "AB", "B"), ("X", "XX", "XXX", "XY"), ("AZ", "B")):
            self.assertEqual(list(read_world(rows(*names))[1]), list(names))
        for names in (("B", "A"), ("A", "A"), ("A", "B", "A"), ("AA", "A"), ("B", "AZ"), ("A", "B", "C", "C"), ("A", "C", "B", "D"),
                      ("A", "B", "C", "D", "E"), ("A", "B", "C", "D", "E", "F")):
            self.none(rows(*names))

    def test_line_feeds(self):
        for base in BASES:
            room = "3:" + ".".join("0" * base)
            good = f"base {base}\nrow A {room}\nrow B {room}"
            read_world(good)
            for text in (good + "\n", "\n" + good, good.replace("\n", "\n\n"), good.replace("\n", "\n\n", 1), good + "\n\n",
                         good.replace("\n", " "), good.replace("\n", "\r\n"), good.replace("\n", "|"), f"base {base}\n"):
                self.none(text)

    def test_cut_off_anywhere(self):
        for base in BASES:
            world = (base, {"A": ((1, 2), ((0,) + (1,) * (base - 1), (1,) * base)), "B": ((3,), ((0,) * base,))})
            text = show_world(world)
            good = [f"base {base}", show_world((base, {"A": world[1]["A"]})), text]
            for end in range(len(text) + 1):
                if text[:end] in good:
                    read_world(text[:end])
                elif text[end] == " " and text[end - 1] == "1":
                    # Behind a whole room: what is left is right in form, but leads to a room that isn't there.
                    self.wrong_row(text[:end], "A")
                else:
                    self.none(text[:end])

    def test_rows_that_are_not_right(self):
        self.wrong_row("base 2\nrow A 0:0.1", "A")
        self.wrong_row("base 2\nrow A 0:1.0 1:1.0", "A")
        self.wrong_row("base 3\nrow A 0:0.0.0\nrow B 0:0.0.9", "B")
        self.wrong_row("base 4\nrow A 0:0.0.0.0\nrow B 0:0.0.2.0 0:1.1.1.1\nrow C 0:0.0.0.1", "B")
        self.wrong_row("base 2\nrow A 1:1.0 2:0.1\nrow B 0:0.0", "A")
        self.wrong_row("base 2\nrow A 1:8.0", "A")
        for base in BASES:
            for figure in range(base):
                moves = ".".join("1" if spot == figure else "0" for spot in range(base))
                self.wrong_row(f"base {base}\nrow AB 4:{moves}", "AB")

    def test_the_form_ahead_of_right_rows(self):
        for more in ("\n", "\nrow A 0:0.0", "\nrow B 0:0", "\nrow B", "\n\nrow B 0:0.0", " ", "\nrow b 0:0.0",
                     "\nrow C 0:0.0\nrow B 0:0.0", "".join(f"\nrow {name} 0:0.0" for name in "BCDE")):
            self.wrong_row("base 2\nrow A 0:0.1", "A")
            self.none("base 2\nrow A 0:0.1" + more)

    def test_changed_anywhere(self):
        chance = random.Random(4)
        seen = {"read": 0, "NoText": 0, "NoRow": 0}
        for again in range(4000):
            text = world_by_hand(any_world(chance, chance.choice(BASES)))
            at = chance.randrange(len(text) + 1)
            if again % 2:
                spots = [spot for spot, sign in enumerate(text) if sign.isdigit()]
                at = chance.choice(spots)
                text = text[:at] + chance.choice("0123456789") + text[at + 1:]
            else:
                more = chance.choice((chance.choice(SIGNS + "\n"), chance.choice("0123 :.\nA"), "", "\nrow B 0:0.0", " 0:0.0"))
                text = text[:at] + more + text[at + chance.choice((0, 1)):]
            try:
                told = read_world(text)
            except (NoText, NoRow) as error:
                seen[type(error).__name__] += 1
                continue
            self.assertEqual(world_by_hand(told), text)
            seen["read"] += 1
        self.assertTrue(all(many > 100 for many in seen.values()), seen)

    def test_what_is_told_is_of_plain_kinds(self):
        self.assertEqual(repr(read_world("base 2\nrow A 1:0.0")), "(2, {'A': ((1,), ((0, 0),))})")


if __name__ == "__main__":
    unittest.main()
