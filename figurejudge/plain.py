"""Sayings looked at plainly: by the numbers that a dict tells, some and each up to a number."""

from figurejudge.rows import sign_at
from figurejudge.sayings import inner_parts

# By each word, the pair of what is looked for in what it asks in turn and what it says once that is found.
LOOKED_FOR = {
    "not": (True, False),
    "and": (False, False),
    "or": (True, True),
    "some": (True, True),
    "each": (False, False),
}


def worth_of(term, values):
    """The number for which a term stands."""
    return term[0] + sum([part[1] * values[part[0]] for part in term[1]])


def atom_holds(world, saying, values):
    """Whether a same, less, sign or alike holds."""
    word = saying[0]
    if word == "same":
        return worth_of(saying[1], values) == worth_of(saying[2], values)
    if word == "less":
        return worth_of(saying[1], values) < worth_of(saying[2], values)
    if word == "sign":
        return sign_at(world, saying[1], worth_of(saying[2], values)) == saying[3]
    left = sign_at(world, saying[1], worth_of(saying[2], values))
    return left == sign_at(world, saying[3], worth_of(saying[4], values))


def turns_of(saying, most):
    """How often a saying asks a part of it, at the most."""
    if saying[0] in ("some", "each"):
        return most
    return len(inner_parts(saying))


def turn_at(saying, values, turn):
    """The pair of the part that a saying asks at a turn and the numbers by which it is asked."""
    if saying[0] in ("some", "each"):
        inside = dict(values)
        inside[saying[1]] = turn
        return (saying[2], inside)
    return (inner_parts(saying)[turn], values)


def holds_plainly(world, saying, values, most):
    """Whether a saying holds by these numbers, some and each being of those from 0 to most - 1 alone."""
    # A list of what waits, in the place of calls: no saying is refused for being nested deep.
    waiting = [(saying, values, 0)]
    told = False
    while waiting:
        asked = waiting.pop()
        word = asked[0][0]
        turn = asked[2]
        if word not in LOOKED_FOR:
            told = atom_holds(world, asked[0], asked[1])
        elif turn > 0 and told == LOOKED_FOR[word][0]:
            told = LOOKED_FOR[word][1]
        elif turn >= turns_of(asked[0], most):
            told = not LOOKED_FOR[word][1]
        else:
            inside = turn_at(asked[0], asked[1], turn)
            waiting.append((asked[0], asked[1], turn + 1))
            waiting.append((inside[0], inside[1], 0))
    return told
