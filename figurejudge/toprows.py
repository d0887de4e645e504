"""Rows told from the greatest place down, and turned to rows that are told from the ones on."""

from figurejudge.figures import figures_of
from figurejudge.machines import FAR_BEYOND, grown_from
from figurejudge.rows import room_after


def sign_down(base, row, number):
    """The sign at a number of a row that is told from the greatest place down."""
    figures = list(reversed(figures_of(base, number)))
    return row[0][room_after(row[1], 0, figures)]


def rooms_met(base, row):
    """The pair of the rooms that come up in a row, as a list, and their moves by their numbers in it."""
    onward = lambda room, figure: row[1][room][figure]
    grown = grown_from(0, base, onward, lambda room: True, len(row[0]))
    return (grown[0], grown[2])


def row_of(base, row):
    """The least right row that has the same signs as a row told from the greatest place down."""
    met = rooms_met(base, row)
    # A room of the new row is the tuple of the signs to which the figures read so far, the last one first, lead
    # from each of the old rooms: what is read later stands ahead of them, and may lead to any room that comes up.
    first = tuple([row[0][room] for room in met[0]])
    onward = lambda signs, figure: tuple([signs[leads[figure]] for leads in met[1]])
    grown = grown_from(first, base, onward, lambda signs: True, FAR_BEYOND)
    return (tuple([signs[0] for signs in grown[0]]), grown[2])
