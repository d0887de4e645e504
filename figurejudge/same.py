"""Two sayings compared: alike with a table of pairs of rooms, or the first tuple at which they part."""

from figurejudge.figures import all_letters
from figurejudge.joined import names_of_both, pairs_onward
from figurejudge.machines import grown_from
from figurejudge.maker import made_of
from figurejudge.order import first_of


def compared_machines(base, one, other):
    """The table of two machines that say the same, or the first tuple of which they say unlike."""
    names = names_of_both(one, other)
    many = len(all_letters(base, len(names)))
    parts = lambda pair: one[1][pair[0]] != other[1][pair[1]]
    # No bound on pairs is told, and there are no more than these.
    pairs = len(one[1]) * len(other[1])
    grown = grown_from((0, 0), many, pairs_onward(base, one, other), parts, pairs)
    if any(grown[1]):
        return ("part", first_of(base, (names, grown[1], grown[2])))
    return ("alike", sorted(grown[0]))


def compared(world, one, other):
    """Two sayings, by the free names of both: alike with their table, or where they part."""
    left = made_of(world, one)
    return compared_machines(world[0], left, made_of(world, other))
