"""Points 2 and 21: the papers of sayings, and whether a paper holds."""

import itertools
import random
import unittest

from figurejudge.errors import TooMany
from figurejudge.joined import turned_no
from figurejudge.maker import made_of
from figurejudge.papers import paper_holds, paper_of
from samples import BASES, letters_by_hand, sum_row
from test_hidden import goes_on_by_hand, leads_by_hand
from test_joined import own
from test_maker import plus, small_saying

M, N, K = (0, (("m", 1),)), (0, (("n", 1),)), (0, (("k", 1),))
F, G = ("less", plus(3, m=2), plus(0, n=3)), ("same", N, plus(2, m=1))
NOUGHT = (0, ())


class Paper:
    """A saying with its machine and its parts' machines, by which papers are told by hand."""

    def __init__(self, world, saying):
        self.base, self.saying, self.word = world[0], saying, saying[0]
        self.machine = made_of(world, saying)
        self.parts = [made_of(world, part) for part in (saying[1:] if self.word in ("not", "and", "or") else saying[2:])]
        self.letters = letters_by_hand(self.base, len(self.machine[0]))
        self.hides = self.word in ("some", "each") and saying[1] in self.parts[0][0]
        if self.hides:
            wanted = self.parts[0] if self.word == "some" else turned_no(self.parts[0])
            self.can = [goes_on_by_hand(self.base, wanted, saying[1], room) for room in range(len(wanted[1]))]

    def first(self):
        return (0, (0,)) if self.word in ("some", "each") else (0,) * (1 + len(self.parts))

    def step(self, machine, room, letter):
        """Where a machine goes by the figures of its own names in a letter of the saying's names."""
        mine = letters_by_hand(self.base, len(machine[0])).index(own(self.machine[0], letter, machine[0]))
        return machine[2][room][mine]

    def onward(self, row, letter):
        room = self.step(self.machine, row[0], letter)
        if self.word not in ("some", "each"):
            return (room,) + tuple(self.step(part, at, letter) for part, at in zip(self.parts, row[1:]))
        if not self.hides:
            return room, tuple(sorted({self.step(self.parts[0], at, letter) for at in row[1]}))
        leads = [leads_by_hand(self.base, self.parts[0], self.saying[1], at, letter) for at in row[1]]
        return room, tuple(sorted(set().union(*leads)))

    def says(self, row):
        """What the word says of the others' yes."""
        if self.word in ("some", "each") and self.hides:
            found = any(self.can[at] for at in row[1])
            return found if self.word == "some" else not found
        if self.word in ("some", "each"):
            return (any if self.word == "some" else all)(self.parts[0][1][at] for at in row[1])
        yes = [part[1][at] for part, at in zip(self.parts, row[1:])]
        return not yes[0] if self.word == "not" else (all if self.word == "and" else any)(yes)

    def told(self):
        rows = [self.first()]
        for row in rows:
            rows += [to for to in dict.fromkeys(self.onward(row, letter) for letter in self.letters) if to not in rows]
        return sorted(rows)

    def holds(self, paper):
        return (self.first() in paper
                and all(self.onward(row, letter) in paper for row in paper for letter in self.letters)
                and all(self.machine[1][row[0]] == self.says(row) for row in paper))

    def any_row(self, chance):
        """Any tuple of rooms that are there."""
        room = chance.randrange(len(self.machine[1]))
        if self.word in ("some", "each"):
            many = len(self.parts[0][1])
            return room, tuple(sorted(chance.sample(range(many), chance.randint(0, min(many, 3)))))
        return (room,) + tuple(chance.randrange(len(part[1])) for part in self.parts)


def sayings():
    """Of each word, with names shared, apart and none, hidden ones that are there or not."""
    plain = [("not", F), ("not", ("same", NOUGHT, (1, ()))), ("not", ("not", G)),
             ("some", "z", F), ("each", "z", G), ("some", "n", ("less", M, (3, ()))), ("each", "k", ("same", NOUGHT, NOUGHT)),
             ("some", "n", ("less", N, (5, ()))), ("each", "n", ("less", N, (5, ()))), ("each", "n", ("not", ("less", N, N))),
             ("some", "n", ("same", M, plus(1, n=3))), ("each", "n", ("not", ("same", M, plus(1, n=3))))]
    for word in ("some", "each"):
        for name in ("m", "n"):
            plain += [(word, name, F), (word, name, G), (word, name, ("or", F, G)), (word, name, ("and", F, ("not", G)))]
        plain.append((word, "k", ("same", plus(0, k=1, m=1), N)))
    for word in ("and", "or"):
        plain += [(word, F, G), (word, G, F), (word, F, F), (word, ("less", M, (4, ())), ("less", K, (2, ()))),
                  (word, ("less", N, (4, ())), ("same", M, (2, ()))), (word, F, ("same", NOUGHT, NOUGHT)),
                  (word, ("same", NOUGHT, (2, ())), F), (word, ("same", K, (1, ())), F), (word, ("some", "n", F), G)]
    return plain


def needed(paper):
    """All papers with one tuple left out."""
    return [paper[:spot] + paper[spot + 1:] for spot in range(len(paper))]


class PaperOfTest(unittest.TestCase):
    def test_written_out(self):
        # n less than 1: room 0 yes, 1 no.
        little = ("less", N, (1, ()))
        self.assertEqual(paper_of((2, {}), ("not", little)), [(0, 0), (1, 1)])
        self.assertEqual(paper_of((2, {}), ("and", little, little)), [(0, 0, 0), (1, 1, 1)])
        self.assertEqual(paper_of((2, {}), ("some", "n", little)), [(0, (0,)), (0, (0, 1))])
        self.assertEqual(paper_of((2, {}), ("each", "n", little)), [(0, (0,)), (0, (0, 1))])
        self.assertEqual(paper_of((2, {}), ("some", "z", little)), [(0, (0,)), (1, (1,))])
        self.assertEqual(paper_of((2, {}), ("each", "z", little)), [(0, (0,)), (1, (1,))])
        # Never both and always one of them: one room beside all pairs.
        self.assertEqual(paper_of((2, {}), ("and", little, ("not", little))), [(0, 0, 0), (0, 1, 1)])

    def test_names_apart_written_out(self):
        one, other = ("less", M, (1, ())), ("less", K, (1, ()))
        # Letters are of (k, m), so m's 1 comes ahead of k's; rooms of F, which has m, stand ahead of G's.
        self.assertEqual(paper_of((2, {}), ("or", one, other)), [(0, 0, 0), (1, 1, 0), (2, 0, 1), (3, 1, 1)])
        self.assertEqual(paper_of((2, {}), ("and", one, other)), [(0, 0, 0), (1, 0, 1), (1, 1, 0), (1, 1, 1)])

    def test_each_word_by_hand(self):
        for base in BASES:
            for saying in sayings():
                told = paper_of((base, {}), saying)
                self.assertEqual(told, Paper((base, {}), saying).told(), saying)
                self.assertIs(type(told), list)
                self.assertTrue(all(type(row) is tuple for row in told))

    def test_any_saying_by_hand(self):
        for base in BASES:
            chance = random.Random(base)
            for again in range(60):
                saying = small_saying(chance, 7, 3)
                if saying[0] in ("same", "less"):
                    continue
                self.assertEqual(paper_of((base, {}), saying), Paper((base, {}), saying).told(), saying)

    def test_of_rows(self):
        for base in BASES:
            world = (base, {"A": sum_row(base, 3), "B": sum_row(base, 2)})
            a, b = ("sign", "A", plus(1, m=2), 1), ("alike", "A", M, "B", plus(3, n=1))
            for saying in (("not", a), ("and", a, b), ("or", b, a), ("some", "m", b), ("each", "n", b), ("some", "n", a),
                           ("each", "m", ("or", a, ("not", a)))):
                told = paper_of(world, saying)
                self.assertEqual(told, Paper(world, saying).told())
                self.assertIs(paper_holds(world, saying, told), True)

    def test_sets_of_several_rooms(self):
        # n less than 2: both first figures lead to room 1, from which the hidden 1 leads to no.
        self.assertEqual(paper_of((2, {}), ("each", "n", ("less", N, (2, ())))), [(0, (0,)), (0, (1,)), (0, (1, 2))])
        told = paper_of((3, {}), ("some", "n", ("less", plus(0, n=5), M)))
        self.assertGreater(max(len(some) for room, some in told), 2)
        self.assertTrue(all(list(some) == sorted(set(some)) for room, some in told))

    def test_true_each_papers_say_yes_throughout(self):
        for base in BASES:
            for inside in (("or", ("less", N, M), ("not", ("less", N, M))), ("not", ("less", N, N))):
                machine = made_of((base, {}), inside)
                self.assertEqual(set(machine[1]), {True})
                self.assertTrue(all(machine[1][row[0]] for row in paper_of((base, {}), inside)))


class PaperHoldsTest(unittest.TestCase):
    def test_the_paper_itself_in_any_order_and_doubled(self):
        for base in BASES:
            chance = random.Random(base)
            for saying in sayings():
                paper = paper_of((base, {}), saying)
                self.assertIs(paper_holds((base, {}), saying, paper), True)
                mixed = paper + chance.choices(paper, k=3)
                chance.shuffle(mixed)
                for given in (list(reversed(paper)), mixed, paper * 2):
                    self.assertIs(paper_holds((base, {}), saying, given), True)

    def test_a_tuple_left_out_that_is_needed(self):
        for base in BASES:
            for saying in sayings():
                for given in needed(paper_of((base, {}), saying)):
                    self.assertIs(paper_holds((base, {}), saying, given), False, (saying, given))

    def test_the_firsts_missing(self):
        for base in BASES:
            for saying in sayings():
                self.assertIs(paper_holds((base, {}), saying, []), False)
            # All else is shut under all figures and right.
            self.assertIs(paper_holds((base, {}), ("not", ("less", N, (1, ()))), [(1, 1)]), False)
            self.assertIs(paper_holds((base, {}), ("some", "n", ("less", N, (1, ()))), [(0, (0, 1))]), False)
            self.assertIs(paper_holds((base, {}), ("and", ("less", N, (1, ())), ("less", N, (1, ()))), [(1, 1, 1)]), False)

    def test_a_tuple_whose_yes_is_not_what_the_word_says(self):
        little = ("less", N, (1, ()))
        for base in BASES:
            wrong = (
                (("not", little), (0, 1)), (("not", little), (1, 0)), (("and", little, little), (0, 0, 1)),
                (("or", little, little), (1, 0, 1)), (("some", "n", little), (0, (1,))), (("some", "n", little), (0, ())),
                (("each", "n", little), (0, ())), (("each", "n", ("less", M, plus(1, n=1))), (1, ())),
                (("some", "z", little), (0, (1,))), (("each", "z", little), (1, (0,))),
            )
            for saying, row in wrong:
                paper = Paper((base, {}), saying)
                self.assertNotEqual(paper.machine[1][row[0]], paper.says(row))
                self.assertIs(paper_holds((base, {}), saying, shut(paper, paper.told())), True)
                self.assertIs(paper_holds((base, {}), saying, shut(paper, paper.told() + [row])), False, (saying, row))

    def test_more_than_come_up_may_be_in_it(self):
        # The pair of rooms (1, 0) never comes up of one saying twice, and is right beside room 1.
        little = ("less", N, (1, ()))
        for base in BASES:
            more = paper_of((base, {}), ("and", little, little)) + [(1, 1, 0), (1, 0, 1)]
            self.assertIs(paper_holds((base, {}), ("and", little, little), more), True)
            more = paper_of((base, {}), ("some", "n", little)) + [(0, (0,))]
            self.assertIs(paper_holds((base, {}), ("some", "n", little), more), True)
            # No set of rooms at all: some is untrue of it and each is true of it.
            self.assertIs(paper_holds((base, {}), ("some", "n", ("less", N, N)), [(0, (0,)), (0, ())]), True)
            never = paper_of((base, {}), ("each", "n", ("not", ("less", N, N))))
            self.assertIs(paper_holds((base, {}), ("each", "n", ("not", ("less", N, N))), never + [(0, ())]), True)

    def test_any_list_of_such_tuples(self):
        for base in BASES:
            chance = random.Random(base)
            seen = {True: 0, False: 0}
            for saying in sayings():
                paper = Paper((base, {}), saying)
                whole = paper.told()
                for again in range(12):
                    given = list(whole)
                    if chance.random() < 0.3:
                        given = [row for row in whole if chance.random() < 0.7]
                    given += [paper.any_row(chance) for more in range(chance.randint(0, 2))]
                    if chance.random() < 0.6:
                        given = shut(paper, given)
                    chance.shuffle(given)
                    truth = paper.holds(given)
                    seen[truth] += 1
                    self.assertIs(paper_holds((base, {}), saying, given), truth, (saying, given))
            self.assertGreater(min(seen.values()), 30)


def shut(paper, rows):
    """These tuples and all to which they lead."""
    rows = list(rows)
    for row in rows:
        rows += [to for to in dict.fromkeys(paper.onward(row, letter) for letter in paper.letters) if to not in rows]
    return rows


class TooManyTest(unittest.TestCase):
    def refused(self, place, function, *given):
        with self.assertRaises(TooMany) as caught:
            function(*given)
        self.assertEqual(caught.exception.place, place)

    def test_three_hundred(self):
        for base in BASES:
            a, b = ("sign", "A", M, 1), ("sign", "B", N, 1)
            world = (base, {"A": sum_row(base, 7), "B": sum_row(base, 43)})
            for saying, place in ((("and", a, b), ()), (("not", ("or", a, b)), (0,)), (("some", "k", ("and", a, b)), (0,)),
                                  (("or", a, ("each", "n", ("or", a, b))), (1, 0)),
                                  (("and", ("alike", "A", M, "B", N), ("and", a, b)), (0,))):
                self.refused(place, paper_of, world, saying)
                self.refused(place, paper_holds, world, saying, [])
                self.refused(place, paper_holds, world, saying, [(0, 0)])
            world = (base, {"A": sum_row(base, 15), "B": sum_row(base, 20)})
            paper = paper_of(world, ("and", a, b))
            self.assertEqual(len(paper), 300)
            self.assertIs(paper_holds(world, ("and", a, b), paper), True)
            self.assertIs(paper_holds(world, ("and", a, b), paper[:-1]), False)


class KeptTest(unittest.TestCase):
    def test_a_told_list_is_the_askers_own(self):
        saying = ("and", F, G)
        first = paper_of((2, {}), saying)
        before = list(first)
        first[0] = "other"
        first.append("more")
        self.assertEqual(paper_of((2, {}), saying), before)

    def test_a_paper_handed_in_stays(self):
        chance = random.Random(2)
        for saying in sayings():
            paper = paper_of((2, {}), saying) * 2
            chance.shuffle(paper)
            before = list(paper)
            paper_holds((2, {}), saying, paper)
            self.assertEqual(paper, before)

    def test_words_all_have_sayings(self):
        words = {word: len(list(some)) for word, some in itertools.groupby(sorted(saying[0] for saying in sayings()))}
        self.assertEqual(sorted(words), ["and", "each", "not", "or", "some"])


if __name__ == "__main__":
    unittest.main()
