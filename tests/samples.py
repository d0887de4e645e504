"""Inputs that several tests share: numbers, rows, worlds and sayings. Chance is seeded, so each run is the same."""

import itertools
import random

BASES = (2, 3, 4)
ATOM_WORDS = ("same", "less", "sign", "alike")


def power(base, places):
    return base ** places


def numbers_for(base):
    """Small ones, powers and those beside them, some of hundreds of figures and a few of thousands."""
    chance = random.Random(base)
    numbers = list(range(40))
    for places in (1, 2, 3, 4, 5, 9, 30, 31, 64, 100):
        for beside in (-1, 0, 1):
            numbers.append(power(base, places) + beside)
    numbers += [chance.randrange(power(base, places)) for places in (7, 20, 150, 300, 700) for again in range(4)]
    numbers += [power(base, 3000) - 1, power(base, 3000), power(base, 3000) + 1, chance.randrange(power(base, 5000))]
    return numbers


def figures_by_hand(base, number, places):
    """So many figures of a number, each by its own division."""
    return [number // base ** place % base for place in range(places)]


def sum_row(base, round_at):
    """Its sign is the sum of the figures, by its rest."""
    moves = [tuple((room + figure) % round_at for figure in range(base)) for room in range(round_at)]
    return tuple(range(round_at)), tuple(moves)


def ones_row(base):
    """Its sign is the figure of the ones: room 0 leads to a room that all figures keep."""
    keep = [(room,) * base for room in range(1, base + 1)]
    return (0,) + tuple(range(base)), (tuple(range(1, base + 1)),) + tuple(keep)


def last_row(base):
    """Its sign is the last figure that isn't 0."""
    moves = [(room,) + tuple(range(1, base)) for room in range(base)]
    return tuple(range(base)), tuple(moves)


def flat_row(base, sign=7):
    """Its sign is the same everywhere."""
    return (sign,), ((0,) * base,)


def world_of(base):
    """A right world of four rows."""
    return base, {"T": sum_row(base, 3), "A": ones_row(base), "LAS": last_row(base), "F": flat_row(base)}


def random_row(chance, base, rooms):
    """A right row: noughts lead to rooms of like sign, all else anywhere."""
    signs = [chance.randrange(10 if rooms > 4 else 3) for room in range(rooms)]
    moves = []
    for sign in signs:
        like = [room for room in range(rooms) if signs[room] == sign]
        moves.append((chance.choice(like),) + tuple(chance.randrange(rooms) for figure in range(base - 1)))
    return tuple(signs), tuple(moves)


def random_world(chance, base, rooms=6):
    """A right world of the rows A and B, of at most so many rooms."""
    return base, {name: random_row(chance, base, chance.randint(1, rooms)) for name in ("A", "B")}


def sign_by_hand(base, row, number):
    """The sign of a row at a number, by one division a figure."""
    signs, moves = row
    room = 0
    while number:
        number, figure = divmod(number, base)
        room = moves[room][figure]
    return signs[room]


def some_numbers(chance, base, many):
    """So many numbers for each of several sizes: small, 0, some forty and some hundred figures, and unlike ones."""
    sizes = [(1,), (2,), (3,), (5,), (40,), (42,), (130,), (0, 40), (1, 130), (40, 130)]
    tuples = [(0,) * many]
    for size in sizes * 4:
        tuples.append(tuple(chance.randrange(base ** chance.choice(size)) for spot in range(many)))
    return tuples


def random_machine(chance, base, names, rooms):
    """A machine of these names: noughts lead to rooms of like yes, all else anywhere."""
    yes = [chance.random() < 0.4 for room in range(rooms)]
    moves = []
    for at in yes:
        like = [room for room in range(rooms) if yes[room] == at]
        others = [chance.randrange(rooms) for letter in range(base ** len(names) - 1)]
        moves.append((chance.choice(like),) + tuple(others))
    return tuple(names), tuple(yes), tuple(moves)


def letters_by_hand(base, many):
    return list(itertools.product(range(base), repeat=many))


def grown_by_hand(first, letters, onward):
    """Pairs of the rooms that come up and the numbers of those to which their letters lead."""
    rooms = [first]
    moves = []
    for room in rooms:
        leads = [onward(room, letter) for letter in letters]
        for to in leads:
            if to not in rooms:
                rooms.append(to)
        moves.append(leads)
    return rooms, tuple(tuple(rooms.index(to) for to in leads) for leads in moves)


def worth_by_hand(term, values):
    return sum([values[name] for name, times in term[1] for again in range(times)], term[0])


def holds_by_hand(world, saying, values, most):
    """As point 11 says it."""
    word = saying[0]
    if word in ("some", "each"):
        ask = any if word == "some" else all
        return ask(holds_by_hand(world, saying[2], {**values, saying[1]: number}, most) for number in range(most))
    if word == "not":
        return not holds_by_hand(world, saying[1], values, most)
    if word in ("and", "or"):
        ask = any if word == "or" else all
        return ask([holds_by_hand(world, part, values, most) for part in saying[1:]])
    base, rows = world
    if word == "sign":
        return sign_by_hand(base, rows[saying[1]], worth_by_hand(saying[2], values)) == saying[3]
    if word == "alike":
        return (sign_by_hand(base, rows[saying[1]], worth_by_hand(saying[2], values))
                == sign_by_hand(base, rows[saying[3]], worth_by_hand(saying[4], values)))
    left, right = worth_by_hand(saying[1], values), worth_by_hand(saying[2], values)
    return left == right if word == "same" else left < right


def term(number, *names):
    """A term with these names, their times told by their order."""
    return number, tuple((name, 1 + spot) for spot, name in enumerate(sorted(names)))


def says(*names):
    """A plain saying with just these free names."""
    return "same", term(3, *names[:2]), term(0, *names[2:])


def random_term(chance, names):
    return term(chance.randrange(100), *chance.sample(names, chance.randrange(min(4, len(names) + 1))))


def wide_term(chance, names, most=99):
    """A term of at most three of the names with any times."""
    own = sorted(chance.sample(names, chance.randrange(min(4, len(names) + 1))))
    return chance.randint(0, most), tuple((name, chance.randint(1, 9)) for name in own)


def random_atom(chance, names, rows):
    word = chance.choice(ATOM_WORDS)
    one, other = random_term(chance, names), random_term(chance, names)
    if word == "sign":
        return word, chance.choice(rows), one, chance.randrange(10)
    if word == "alike":
        return word, chance.choice(rows), one, chance.choice(rows), other
    return word, one, other


def random_saying(chance, parts, deep, names, rows):
    """A saying of at most so many parts within it and nested at most so deep."""
    if parts < 1 or deep < 1 or chance.random() < 0.02:
        return random_atom(chance, names, rows)
    word = chance.choice(("not", "and", "and", "or", "or", "some", "each"))
    if word == "not":
        return word, random_saying(chance, parts - 1, deep - 1, names, rows)
    if word in ("some", "each"):
        return word, chance.choice(names), random_saying(chance, parts - 1, deep - 1, names, rows)
    left = chance.randrange(parts)
    return (word, random_saying(chance, left - 1, deep - 1, names, rows),
            random_saying(chance, parts - left - 2, deep - 1, names, rows))


def deep_saying(core, deep):
    """The core within so many words, each of the five in turn; and, or hold it as their G."""
    saying = core
    for step in range(deep):
        aside = says("x")
        saying = (("not", saying), ("and", aside, saying), ("some", "q", saying), ("or", aside, saying),
                  ("each", "r", saying))[step % 5]
    return saying
