"""Point 1: what is handed in stays as it was, and what is told is the asker's own and the same each time."""

import copy
import random
import unittest

from figurejudge.atoms import atom_of
from figurejudge.desk import Desk
from figurejudge.errors import JudgeError
from figurejudge.figures import all_letters, figures_of, is_ahead, letters_of, number_of, numbers_of
from figurejudge.hidden import each_of, sets_of, some_of
from figurejudge.joined import both_of, either_of, turned_no
from figurejudge.judge import counter_of, judged, judged_each, witness_of
from figurejudge.machines import grown_from, says_yes
from figurejudge.maker import made_of
from figurejudge.order import first_of, first_tuples, how_many
from figurejudge.papers import paper_holds, paper_of
from figurejudge.plain import holds_plainly, worth_of
from figurejudge.reading import read_saying, read_world
from figurejudge.rows import look_world, sign_at
from figurejudge.same import compared
from figurejudge.sayings import free_names, look_saying, part_at
from figurejudge.shown import show_saying, show_term, show_world
from figurejudge.thin import parting_of, thinned
from figurejudge.toprows import row_of, sign_down
from figurejudge.turned import says_down, turned_about
from samples import BASES, random_machine, says, term, world_of


def nested():
    return ("and", ("some", "n", says("m", "n")), ("not", ("sign", "A", term(3, "k"), 2)))


def broken_world(base):
    world = world_of(base)
    world[1]["F"] = ((1, 2), ((1,) * base, (0,) * base))
    return world


def machine_for(base, *names):
    return random_machine(random.Random(base), base, names, 6)


def calls():
    """Pairs (function, arguments made anew)."""
    for base in BASES:
        yield from first_calls(base)
        yield from machine_calls(base)
        yield from maker_calls(base)
        yield from judge_calls(base)
        yield from text_calls(base)


def first_calls(base):
    yield figures_of, (base, 1234)
    yield number_of, (base, [1, 0, 1, 1, 0])
    yield all_letters, (base, 2)
    yield letters_of, (base, (17, 0, 90))
    yield numbers_of, (base, 2, [3, 1, 0, 2, 0])
    yield is_ahead, (base, (4, 5), (6, 1))
    yield look_world, (world_of(base),)
    yield look_world, (broken_world(base),)
    yield sign_at, (world_of(base), "T", 1234)
    yield free_names, (nested(),)
    yield look_saying, (world_of(base), nested())
    yield look_saying, ((base, {}), nested())
    yield part_at, (nested(), (1, 0))


def machine_calls(base):
    yield worth_of, (term(3, "m", "n"), {"n": 4, "m": 9, "z": 1})
    yield holds_plainly, (world_of(base), nested(), {"n": 99, "m": 4, "k": 2}, 5)
    yield holds_plainly, (world_of(base), ("each", "k", ("some", "m", nested())), {"n": 99, "m": 4, "k": 2}, 3)
    yield says_yes, (base, machine_for(base, "m", "n"), (12, 7))
    yield grown_from, (0, 3, lambda room, letter: (room + letter) % 5, lambda room: room == 1)
    yield grown_from, (0, 3, lambda room, letter: (room + letter) % 5, lambda room: room == 1, 4)
    for saying in (("same", term(3, "m"), term(0, "n")), ("less", term(3, "m"), term(0, "n")),
                   ("sign", "T", term(2, "m", "n"), 1), ("alike", "T", term(0, "m"), "A", term(1, "m"))):
        yield atom_of, (world_of(base), saying)
        yield atom_of, (world_of(base), saying, 1)
    yield turned_no, (machine_for(base, "m", "n"),)
    yield both_of, (base, machine_for(base, "m", "n"), machine_for(base, "k"))
    yield either_of, (base, machine_for(base, "m", "n"), machine_for(base, "n"), 7)


def maker_calls(base):
    for function in (sets_of, some_of, each_of):
        yield function, (base, machine_for(base, "m", "n"), "m")
        yield function, (base, machine_for(base, "m", "n"), "n", 1)
    yield some_of, (base, machine_for(base, "m", "n"), "z")
    yield each_of, (base, machine_for(base, "m", "n"), "z")
    yield thinned, (machine_for(base, "m", "n"),)
    for rooms in ((0, 1), (1, 2), (4, 5), (3, 3)):
        yield parting_of, (machine_for(base, "m", "n"),) + rooms
    for saying in (nested(), ("not", nested()), ("or", says("m"), says("n")), ("some", "m", says("m", "n")),
                   ("each", "n", ("less", term(0, "n"), term(4, "m")))):
        yield made_of, (world_of(base), saying)
        yield made_of, (world_of(base), saying, 3)
        yield paper_of, (world_of(base), saying)
        yield paper_holds, (world_of(base), saying, list(reversed(paper_of(world_of(base), saying))))
        yield paper_holds, (world_of(base), saying, [])


def judge_calls(base):
    world = lambda: world_of(base)
    n, m = term(0, "n"), term(0, "m")
    for inside in (("not", ("less", n, n)), ("less", n, term(1, "n")), ("some", "m", ("less", n, m)), ("less", n, term(8)),
                   ("each", "m", ("or", ("less", n, m), ("not", ("less", n, m))))):
        yield judged, (world(), ("each", "n", inside))
        yield judged_each, (world(), ("each", "n", inside))
        yield witness_of, (world(), inside)
        yield counter_of, (world(), inside)
        yield compared, (world(), inside, ("not", ("not", inside)))
        yield compared, (world(), inside, ("sign", "T", m, 1))
    machine = lambda: machine_for(base, "m", "n")
    for many in (0, 1, 20):
        yield first_tuples, (base, machine(), many)
        yield how_many, (base, machine(), many)
    yield first_of, (base, machine())
    yield first_of, (base, (("n",), (False,), ((0,) * base,)))
    yield turned_about, (machine(),)
    yield turned_about, (turned_about(machine()),)
    yield says_down, (base, turned_about(machine()), (12, 7))


def desk_says(text, row):
    return Desk(text).say(row)


def text_calls(base):
    down = lambda: ((0, 1, 2), ((0, 1) + (2,) * (base - 2), (2, 1) + (0,) * (base - 2), (1,) * base))
    yield sign_down, (base, down(), 1234)
    yield row_of, (base, down())
    yield show_term, (term(3, "m", "n"),)
    yield show_saying, (nested(),)
    yield show_world, (world_of(base),)
    for text in (show_saying(nested()), "n = ", "((("):
        yield read_saying, (text,)
    for text in (show_world(world_of(base)), f"base {base}", "base 5", show_world(broken_world(base))):
        yield read_world, (text,)
    for row in ("judge each m some n m < n", "where 17 < n", "first 5 m < n", "alike n < 5 | n < 6", "alike n < 1 | n = 0",
                "judge n = 0", "where ZZ[n] = 0", "where", "first 9 n < n"):
        yield desk_says, (show_world(world_of(base)), row)


def told_by(function, given):
    """What a call tells, or the refusal with its fields."""
    try:
        return function(*given)
    except JudgeError as error:
        return type(error).__name__, vars(error)


def spoil(told):
    """Change a told list in all ways."""
    told.append("more")
    told[0] = "other"
    told.reverse()


class KeptTest(unittest.TestCase):
    def test_what_is_handed_in_stays(self):
        for function, given in calls():
            before = copy.deepcopy(given)
            told_by(function, given)
            self.assertEqual(given, before, function.__name__)
            worlds = [one for one in given if isinstance(one, tuple) and len(one) == 2 and isinstance(one[1], dict)]
            for one in worlds:
                self.assertEqual(list(one[1]), list(before[given.index(one)][1]))

    def test_a_dict_of_numbers_stays_in_its_order(self):
        values = {"n": 99, "m": 4, "k": 2}
        holds_plainly(world_of(2), ("some", "m", ("each", "z", nested())), values, 4)
        worth_of(term(3, "k", "m"), values)
        self.assertEqual(list(values.items()), [("n", 99), ("m", 4), ("k", 2)])

    def test_asked_again_the_same(self):
        for function, given in calls():
            first = copy.deepcopy(told_by(function, given))
            for again in range(3):
                self.assertEqual(told_by(function, given), first, function.__name__)

    def test_a_told_list_is_the_askers_own(self):
        for function, given in calls():
            told = told_by(function, given)
            if isinstance(told, list):
                before = list(told)
                spoil(told)
                self.assertEqual(function(*given), before)
                self.assertIsNot(function(*given), function(*given))

    def test_a_list_in_a_told_tuple_is_the_askers_own(self):
        seen = set()
        for function, given in calls():
            told = told_by(function, given)
            if isinstance(told, tuple) and len(told) == 2 and isinstance(told[1], list):
                before = copy.deepcopy(told)
                spoil(told[1])
                self.assertEqual(function(*given), before)
                seen.add((function.__name__, bool(before[1])))
        self.assertEqual(seen, {("judged_each", True), ("judged_each", False), ("compared", True)})

    def test_a_told_world_is_the_askers_own(self):
        for base in BASES:
            text = show_world(world_of(base))
            told = read_world(text)
            told[1].clear()
            told[1]["Q"] = "other"
            self.assertEqual(read_world(text), world_of(base))
            self.assertIsNot(read_world(text)[1], read_world(text)[1])
            read_world(f"base {base}")[1]["Q"] = "other"
            self.assertEqual(read_world(f"base {base}"), (base, {}))

    def test_a_told_world_changed_changes_no_desk(self):
        for base in BASES:
            text = show_world(world_of(base))
            desk = Desk(text)
            before = desk.say("judge each n F[n] = 7")
            read_world(text)[1].clear()
            Desk(text).world[1].clear()
            self.assertEqual(desk.say("judge each n F[n] = 7"), before)

    def test_empty_lists_are_the_askers_own(self):
        for base in BASES:
            figures_of(base, 0).append(1)
            letters_of(base, ()).append(1)
            letters_of(base, (0, 0)).append(1)
            self.assertEqual(figures_of(base, 0), [])
            self.assertEqual(letters_of(base, ()), [])
            self.assertEqual(letters_of(base, (0, 0)), [])
            self.assertEqual(figures_of(base, base), [0, 1])

    def test_a_list_changed_behind_the_call_changes_nothing(self):
        for base in BASES:
            some = [1, 1, 0]
            number = number_of(base, some)
            numbers = numbers_of(base, 1, some)
            some[0] = 0
            self.assertEqual(number, base + 1)
            self.assertEqual(numbers, (base + 1,))
            self.assertEqual(number_of(base, some), base)

    def test_a_world_changed_behind_the_call_is_read_anew(self):
        for base in BASES:
            world = world_of(base)
            look_world(world)
            look_saying(world, ("sign", "F", term(0), 1))
            self.assertEqual(sign_at(world, "F", 5), 7)
            world[1]["F"] = ((2,), ((0,) * base,))
            self.assertEqual(sign_at(world, "F", 5), 2)
            world[1]["F"] = ((2,), ())
            with self.assertRaises(JudgeError):
                look_world(world)
            world[1].pop("F")
            look_world(world)
            with self.assertRaises(JudgeError):
                look_saying(world, ("sign", "F", term(0), 1))


if __name__ == "__main__":
    unittest.main()
