"""Rows, whose signs are told by small machines, and worlds of rows."""

from figurejudge.errors import NoRow
from figurejudge.figures import figures_of


def are_rooms(leads, many):
    """Whether all that is led to is one of so many rooms."""
    return all([0 <= room < many for room in leads])


def is_right(base, row):
    """Whether a row is right in this base."""
    signs = row[0]
    moves = row[1]
    if len(moves) != len(signs):
        return False
    for room, leads in enumerate(moves):
        if len(leads) != base or not are_rooms(leads, len(signs)):
            return False
        if signs[leads[0]] != signs[room]:
            return False
    return True


def look_world(world):
    """Refuse a world by the first name whose row is not right."""
    base = world[0]
    rows = world[1]
    for name in sorted(rows):
        if not is_right(base, rows[name]):
            raise NoRow(name)


def room_after(moves, room, figures):
    """The room to which the figures lead from a room, in their order."""
    for figure in figures:
        room = moves[room][figure]
    return room


def sign_at(world, name, number):
    """The sign of a world's row at a number."""
    row = world[1][name]
    room = room_after(row[1], 0, figures_of(world[0], number))
    return row[0][room]
