"""Machines turned about, which read from the greatest place down."""

from figurejudge.figures import letters_of
from figurejudge.machines import FAR_BEYOND, grown_from
from figurejudge.order import yes_rooms
from figurejudge.rows import room_after
from figurejudge.thin import rooms_into, thinned


def all_before(before, rooms):
    """The rising tuple of all rooms that lead into these, where before tells them for each room."""
    found = []
    for room in rooms:
        found.extend(before[room])
    return tuple(sorted(found))


def turned_about(machine):
    """The thinned machine that says the same and reads the letters from the greatest place down."""
    # Of a thinned machine fewer sets come up, and what it says turned about is the same.
    least = thinned(machine)
    many = len(least[2][0])
    into = [rooms_into(least[2], letter) for letter in range(many)]
    onward = lambda rooms, letter: all_before(into[letter], rooms)
    grown = grown_from(yes_rooms(least), many, onward, lambda rooms: 0 in rooms, FAR_BEYOND)
    return thinned((least[0], grown[1], grown[2]))


def says_down(base, machine, numbers):
    """Whether a machine that is turned about says yes of a tuple of numbers."""
    letters = list(reversed(letters_of(base, numbers)))
    return machine[1][room_after(machine[2], 0, letters)]
