"""Inputs that several tests share: numbers, rows, worlds and sayings. Chance is seeded, so each run is the same."""

import random

BASES = (2, 3, 4)
ATOM_WORDS = ("same", "less", "sign", "alike")


def power(base, places):
    return base ** places


def numbers_for(base):
    """Small ones, powers and those beside them, some of hundreds of figures and a few of thousands."""
    chance = random.Random(base)
    numbers = list(range(40))
    for places in (1, 2, 3, 4, 5, 9, 30, 31, 64, 100):
        for beside in (-1, 0, 1):
            numbers.append(power(base, places) + beside)
    numbers += [chance.randrange(power(base, places)) for places in (7, 20, 150, 300, 700) for again in range(4)]
    numbers += [power(base, 3000) - 1, power(base, 3000), power(base, 3000) + 1, chance.randrange(power(base, 5000))]
    return numbers


def figures_by_hand(base, number, places):
    """So many figures of a number, each by its own division."""
    return [number // base ** place % base for place in range(places)]


def sum_row(base, round_at):
    """Its sign is the sum of the figures, by its rest."""
    moves = [tuple((room + figure) % round_at for figure in range(base)) for room in range(round_at)]
    return tuple(range(round_at)), tuple(moves)


def ones_row(base):
    """Its sign is the figure of the ones: room 0 leads to a room that all figures keep."""
    keep = [(room,) * base for room in range(1, base + 1)]
    return (0,) + tuple(range(base)), (tuple(range(1, base + 1)),) + tuple(keep)


def last_row(base):
    """Its sign is the last figure that isn't 0."""
    moves = [(room,) + tuple(range(1, base)) for room in range(base)]
    return tuple(range(base)), tuple(moves)


def flat_row(base, sign=7):
    """Its sign is the same everywhere."""
    return (sign,), ((0,) * base,)


def world_of(base):
    """A right world of four rows."""
    return base, {"T": sum_row(base, 3), "A": ones_row(base), "LAS": last_row(base), "F": flat_row(base)}


def term(number, *names):
    """A term with these names, their times told by their order."""
    return number, tuple((name, 1 + spot) for spot, name in enumerate(sorted(names)))


def says(*names):
    """A plain saying with just these free names."""
    return "same", term(3, *names[:2]), term(0, *names[2:])


def random_term(chance, names):
    return term(chance.randrange(100), *chance.sample(names, chance.randrange(4)))


def random_atom(chance, names, rows):
    word = chance.choice(ATOM_WORDS)
    one, other = random_term(chance, names), random_term(chance, names)
    if word == "sign":
        return word, chance.choice(rows), one, chance.randrange(10)
    if word == "alike":
        return word, chance.choice(rows), one, chance.choice(rows), other
    return word, one, other


def random_saying(chance, parts, deep, names, rows):
    """A saying of at most so many parts within it and nested at most so deep."""
    if parts < 1 or deep < 1 or chance.random() < 0.02:
        return random_atom(chance, names, rows)
    word = chance.choice(("not", "and", "and", "or", "or", "some", "each"))
    if word == "not":
        return word, random_saying(chance, parts - 1, deep - 1, names, rows)
    if word in ("some", "each"):
        return word, chance.choice(names), random_saying(chance, parts - 1, deep - 1, names, rows)
    left = chance.randrange(parts)
    return (word, random_saying(chance, left - 1, deep - 1, names, rows),
            random_saying(chance, parts - left - 2, deep - 1, names, rows))


def deep_saying(core, deep):
    """The core within so many words, each of the five in turn; and, or hold it as their G."""
    saying = core
    for step in range(deep):
        aside = says("x")
        saying = (("not", saying), ("and", aside, saying), ("some", "q", saying), ("or", aside, saying),
                  ("each", "r", saying))[step % 5]
    return saying
