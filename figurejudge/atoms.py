"""The machines of plain sayings: same, less, sign and alike."""

from figurejudge.figures import all_letters, figures_of
from figurejudge.machines import machine_of
from figurejudge.rows import room_after
from figurejudge.sayings import free_names


def times_of(term, names):
    """The times of each of the names in a term, 0 where it isn't there."""
    times = dict(term[1])
    return [times.get(name, 0) for name in names]


def sum_of(letter, times):
    """The sum of a letter's figures, each so many times."""
    return sum([figure * many for figure, many in zip(letter, times)])


def letter_sums(base, times):
    """The sum of each letter's figures, in the letters' order."""
    return [sum_of(letter, times) for letter in all_letters(base, len(times))]


def differences(saying, names):
    """For each name its times in a saying's T less its times in U."""
    left = times_of(saying[1], names)
    right = times_of(saying[2], names)
    return [one - other for one, other in zip(left, right)]


def same_onward(base, room, total):
    """The room to which a letter of this sum leads from a room of a same."""
    if room is None or (room - total) % base != 0:
        return None
    return (room - total) // base


def same_growth(base, names, saying):
    """How the rooms of a same grow: first, onward, is_yes."""
    sums = letter_sums(base, differences(saying, names))
    first = saying[2][0] - saying[1][0]
    onward = lambda room, letter: same_onward(base, room, sums[letter])
    return (first, onward, lambda room: room == 0)


def less_growth(base, names, saying):
    """How the rooms of a less grow: first, onward, is_yes."""
    sums = letter_sums(base, differences(saying, names))
    first = saying[2][0] - saying[1][0] - 1
    onward = lambda room, letter: (room - sums[letter]) // base
    return (first, onward, lambda room: room >= 0)


def row_onward(base, row, pair, total):
    """The pair (room of a row, what is carried) to which a letter of this sum leads from such a pair."""
    carried = pair[1] + total
    return (row[1][pair[0]][carried % base], carried // base)


def sign_from(base, row, pair):
    """The sign to which the figures of what is carried lead from the room of a pair."""
    return row[0][room_after(row[1], pair[0], figures_of(base, pair[1]))]


def sign_growth(world, names, saying):
    """How the rooms of a sign grow: first, onward, is_yes."""
    base = world[0]
    row = world[1][saying[1]]
    sums = letter_sums(base, times_of(saying[2], names))
    onward = lambda pair, letter: row_onward(base, row, pair, sums[letter])
    is_yes = lambda pair: sign_from(base, row, pair) == saying[3]
    return ((0, saying[2][0]), onward, is_yes)


def alike_growth(world, names, saying):
    """How the rooms of an alike grow, two pairs in one tuple: first, onward, is_yes."""
    base = world[0]
    one = world[1][saying[1]]
    other = world[1][saying[3]]
    left = letter_sums(base, times_of(saying[2], names))
    right = letter_sums(base, times_of(saying[4], names))
    onward = lambda four, letter: (
        row_onward(base, one, four[:2], left[letter]) + row_onward(base, other, four[2:], right[letter])
    )
    is_yes = lambda four: sign_from(base, one, four[:2]) == sign_from(base, other, four[2:])
    return ((0, saying[2][0], 0, saying[4][0]), onward, is_yes)


def atom_growth(world, names, saying):
    """How the rooms of a same, less, sign or alike grow: first, onward, is_yes."""
    if saying[0] == "same":
        return same_growth(world[0], names, saying)
    if saying[0] == "less":
        return less_growth(world[0], names, saying)
    if saying[0] == "sign":
        return sign_growth(world, names, saying)
    return alike_growth(world, names, saying)


def atom_of(world, saying, most=2000):
    """The machine of a same, less, sign or alike, not thinned, or None where more than most rooms come up."""
    names = free_names(saying)
    return machine_of(world[0], names, atom_growth(world, names, saying), most)
