"""Machines turned about by not and joined by and, or."""

from figurejudge.machines import machine_of, own_letters


def turned_no(machine):
    """The machine of not: the same rooms, yes turned about."""
    return (machine[0], tuple([not yes for yes in machine[1]]), machine[2])


def names_of_both(one, other):
    """The names of two machines, rising."""
    return tuple(sorted(set(one[0] + other[0])))


def pairs_onward(base, one, other):
    """The function that tells where a letter of both machines' names leads a pair of their rooms."""
    names = names_of_both(one, other)
    left = own_letters(base, names, one[0])
    right = own_letters(base, names, other[0])
    return lambda pair, letter: (one[2][pair[0]][left[letter]], other[2][pair[1]][right[letter]])


def both_growth(base, one, other):
    """How the pairs of and grow: first, onward, is_yes."""
    return ((0, 0), pairs_onward(base, one, other), lambda pair: one[1][pair[0]] and other[1][pair[1]])


def either_growth(base, one, other):
    """How the pairs of or grow: first, onward, is_yes."""
    return ((0, 0), pairs_onward(base, one, other), lambda pair: one[1][pair[0]] or other[1][pair[1]])


def both_of(base, one, other, most=2000):
    """The machine of and, not thinned, or None where more than most pairs come up."""
    return machine_of(base, names_of_both(one, other), both_growth(base, one, other), most)


def either_of(base, one, other, most=2000):
    """The machine of or, not thinned, or None where more than most pairs come up."""
    return machine_of(base, names_of_both(one, other), either_growth(base, one, other), most)
