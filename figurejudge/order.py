"""Tuples in order: the first ones of which a machine says yes, and how many there are."""

from figurejudge.figures import all_letters
from figurejudge.hidden import going_on
from figurejudge.thin import rooms_into


def noughts_of(machine):
    """The tuple that is ahead of all others: a nought for each name."""
    return (0,) * len(machine[0])


def yes_rooms(machine):
    """The rising tuple of the rooms that say yes."""
    return tuple([room for room, yes in enumerate(machine[1]) if yes])


def ends_of(machine):
    """For each room whether a letter that is not all noughts leads from it to a yes one."""
    yes = machine[1]
    return [any([yes[to] for to in leads[1:]]) for leads in machine[2]]


def led_further(machine, rooms, let):
    """A dict of the rooms to which one letter leads from any of these rooms, those alone that are let."""
    found = {}
    for room in rooms:
        for to in machine[2][room]:
            if let[to]:
                found[to] = True
    return found


def with_letter(base, numbers, letter):
    """The numbers with one figure more below their ones."""
    return tuple([number * base + figure for number, figure in zip(numbers, letter)])


def steps_into(into, rooms, there):
    """Pairs (letter, all those of the rooms that are there that it leads into these), in the letters' order."""
    steps = []
    for letter, before in enumerate(into):
        found = []
        for room in rooms:
            found.extend([one for one in before[room] if one in there])
        if found:
            steps.append((letter, tuple(sorted(found))))
    return steps


def longer_heads(base, letters, into, there, heads, many):
    """The first so many heads with one letter more below, in order."""
    steps = {}
    longer = []
    for numbers, rooms in heads:
        if len(longer) >= many:
            break
        if rooms not in steps:
            steps[rooms] = steps_into(into, rooms, there)
        for letter, before in steps[rooms]:
            told = with_letter(base, numbers, letters[letter])
            # Noughts at the greatest place would be those of a shorter tuple.
            if any(told):
                longer.append((told, before))
    return longer[:many]


def tuples_as_long(base, machine, into, reached, many):
    """The first so many tuples of which it says yes, of as many letters as there are dicts of rooms reached."""
    letters = all_letters(base, len(machine[0]))
    # A head is a tuple's part from the greatest place down, with all the rooms reached from which it leads to yes:
    # there is one at least, so each head goes on to a tuple, and no more of them than are asked for need be kept.
    heads = [(noughts_of(machine), yes_rooms(machine))]
    for there in reversed(reached):
        heads = longer_heads(base, letters, into, there, heads, many)
    return [head[0] for head in heads]


def first_tuples(base, machine, many):
    """The first so many tuples of which a machine says yes, in order, or all where there are fewer."""
    found = [noughts_of(machine)] if machine[1][0] else []
    letters = list(range(len(machine[2][0])))
    into = [rooms_into(machine[2], letter) for letter in letters]
    ends = ends_of(machine)
    # Where no room that goes on to an end is reached, there is no longer tuple.
    let = going_on((machine[0], ends, machine[2]), letters)
    reached = [{0: True} if let[0] else {}]
    while reached[-1] and len(found) < many:
        if any([ends[room] for room in reached[-1]]):
            found.extend(tuples_as_long(base, machine, into, reached, many - len(found)))
        reached.append(led_further(machine, reached[-1], let))
    return found[:many]


def first_step(machine, rooms, there):
    """The pair of the least letter that leads from rooms that are there into these, and all those it leads so."""
    by_letter = {}
    for room in there:
        for letter, to in enumerate(machine[2][room]):
            if to in rooms:
                found = by_letter.setdefault(letter, {})
                found[room] = True
    letter = min(list(by_letter))
    return (letter, by_letter[letter])


def first_of(base, machine):
    """The first tuple of which a machine says yes, or None."""
    numbers = noughts_of(machine)
    if machine[1][0]:
        return numbers
    ends = ends_of(machine)
    fresh = [True] * len(ends)
    reached = [{0: True}]
    # On the shortest way to an end each room is met as early as it can be, so those met already are left out.
    while reached[-1] and not any([ends[room] for room in reached[-1]]):
        for room in reached[-1]:
            fresh[room] = False
        reached.append(led_further(machine, reached[-1], fresh))
    if not reached[-1]:
        return None
    letters = all_letters(base, len(machine[0]))
    rooms = dict([(room, True) for room in yes_rooms(machine)])
    # No room on the way says yes, so noughts lead none of them to yes and the greatest letter is another.
    for there in reversed(reached):
        step = first_step(machine, rooms, there)
        numbers = with_letter(base, numbers, letters[step[0]])
        rooms = step[1]
    return numbers


def how_many(base, machine, places):
    """Of how many tuples with at most so many figures in each number a machine says yes."""
    counts = {0: 1}
    for place in range(places):
        further = {}
        for room in counts:
            for to in machine[2][room]:
                further[to] = further.get(to, 0) + counts[room]
        counts = further
    return sum([counts[room] for room in counts if machine[1][room]])
