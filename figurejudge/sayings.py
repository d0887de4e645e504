"""Sayings: their parts, their free names, and whether they fit a world."""

from figurejudge.errors import NoSaying

MOST_FREE = 3

# Where in a saying's tuple its parts, its terms and its rows' names stand, by its word.
PART_SPOTS = {"not": (1,), "and": (1, 2), "or": (1, 2), "some": (2,), "each": (2,)}
TERM_SPOTS = {"same": (1, 2), "less": (1, 2), "sign": (2,), "alike": (2, 4)}
ROW_SPOTS = {"sign": (1,), "alike": (1, 3)}


def inner_parts(saying):
    """The parts that stand straight in a saying: its F, its G."""
    return [saying[spot] for spot in PART_SPOTS.get(saying[0], ())]


def row_names(saying):
    """The rows' names that a saying has itself, not in its parts."""
    return [saying[spot] for spot in ROW_SPOTS.get(saying[0], ())]


def term_names(saying):
    """The names in a saying's own terms, perhaps doubled."""
    names = []
    for spot in TERM_SPOTS.get(saying[0], ()):
        names.extend([part[0] for part in saying[spot][1]])
    return names


def parts_in_order(saying):
    """Pairs (place, part), parts ahead of what they stand in, from left to right; the saying itself last."""
    # A list of what waits, in the place of calls: a saying that is read from a text may be nested very deep.
    waiting = [((), saying)]
    found = []
    while waiting:
        pair = waiting.pop()
        found.append(pair)
        for number, part in enumerate(inner_parts(pair[1])):
            waiting.append((pair[0] + (number,), part))
    # Each was found ahead of its parts and the right one ahead of the left one: the asked order from behind.
    return list(reversed(found))


def told_of_parts(told, place, saying):
    """What is told, in a dict by places, of each of the parts that stand straight in the saying at a place."""
    return [told[place + (number,)] for number in range(len(inner_parts(saying)))]


def names_over(saying, inner):
    """The free names of a saying, rising, where inner holds those of each of its parts."""
    names = term_names(saying)
    for some in inner:
        names.extend(some)
    if saying[0] in ("some", "each"):
        names = [name for name in names if name != saying[1]]
    return tuple(sorted(set(names)))


def names_by_place(saying):
    """A dict of the free names of each part by its place."""
    names = {}
    for place, part in parts_in_order(saying):
        names[place] = names_over(part, told_of_parts(names, place, part))
    return names


def free_names(saying):
    """The free names of a saying, rising."""
    return names_by_place(saying)[()]


def look_saying(world, saying):
    """Refuse a saying that does not fit the world, by the place of the first part at fault."""
    rows = world[1]
    names = names_by_place(saying)
    for place, part in parts_in_order(saying):
        missing = [name for name in row_names(part) if name not in rows]
        if missing or len(names[place]) > MOST_FREE:
            raise NoSaying(place)


def part_at(saying, place):
    """The part of a saying at a place."""
    for number in place:
        saying = inner_parts(saying)[number]
    return saying
