"""Machines, which read the letters of their names' numbers, and how their rooms come up."""

from figurejudge.figures import all_letters, letters_of
from figurejudge.rows import room_after

# The bound where none is told: far beyond all that is asked for.
FAR_BEYOND = 1000000


def says_yes(base, machine, numbers):
    """Whether a machine says yes of a tuple of numbers, one for each of its names."""
    return machine[1][room_after(machine[2], 0, letters_of(base, numbers))]


def grown_from(first, many, onward, is_yes, most=2000):
    """The tuple (rooms, yes, moves) of all rooms that come up from the first, or None where more than most do."""
    rooms = [first]
    numbers = {first: 0}
    moves = []
    # Rooms may come up without end, so the count is looked at on the way.
    while len(moves) < len(rooms) <= most:
        room = rooms[len(moves)]
        leads = []
        for letter in range(many):
            to = onward(room, letter)
            if to not in numbers:
                numbers[to] = len(rooms)
                rooms.append(to)
            leads.append(numbers[to])
        moves.append(tuple(leads))
    if len(rooms) > most:
        return None
    yes = tuple([bool(is_yes(room)) for room in rooms])
    return (rooms, yes, tuple(moves))


def machine_of(base, names, growth, most):
    """The machine that grows from a tuple (first, onward, is_yes), or None where more than most rooms come up."""
    many = len(all_letters(base, len(names)))
    grown = grown_from(growth[0], many, growth[1], growth[2], most)
    if grown is None:
        return None
    return (names, grown[1], grown[2])


def own_letters(base, names, own):
    """For each letter of the names' numbers, the number of the letter that the own ones among them have in it."""
    spots = [names.index(name) for name in own]
    numbers = []
    for letter in all_letters(base, len(names)):
        number = 0
        for spot in spots:
            number = number * base + letter[spot]
        numbers.append(number)
    return numbers
