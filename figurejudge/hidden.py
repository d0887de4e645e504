"""The machines of some and each: one name's number is hidden, and rooms are sets of rooms."""

from figurejudge.figures import all_letters
from figurejudge.joined import turned_no
from figurejudge.machines import grown_from, machine_of, own_letters


def other_names(machine, name):
    """The names of a machine but this one."""
    return tuple([own for own in machine[0] if own != name])


def letters_over(base, machine, name):
    """For each letter of the other names' numbers, the machine's letters that have it in them."""
    others = other_names(machine, name)
    over = [[] for letter in all_letters(base, len(others))]
    for letter, other in enumerate(own_letters(base, machine[0], others)):
        over[other].append(letter)
    return over


def rooms_before(machine, letters):
    """For each room the rooms from which one of these letters leads to it, perhaps doubled."""
    before = [[] for room in machine[1]]
    for room, leads in enumerate(machine[2]):
        for letter in letters:
            before[leads[letter]].append(room)
    return before


def going_on(machine, letters):
    """For each room whether one can go on to a yes one by these letters, as often as need be."""
    before = rooms_before(machine, letters)
    can = list(machine[1])
    waiting = [room for room, yes in enumerate(machine[1]) if yes]
    while waiting:
        reached = waiting.pop()
        for room in before[reached]:
            if not can[room]:
                can[room] = True
                waiting.append(room)
    return can


def led_to(machine, some, letters):
    """The rising tuple of all rooms to which any of the letters lead from any of some rooms."""
    found = {}
    for room in some:
        leads = machine[2][room]
        for letter in letters:
            found[leads[letter]] = True
    return tuple(sorted(found))


def sets_growth(base, machine, name):
    """How the sets of some grow: first, onward, is_yes."""
    over = letters_over(base, machine, name)
    can = going_on(machine, over[0])
    onward = lambda some, letter: led_to(machine, some, over[letter])
    return ((0,), onward, lambda some: any([can[room] for room in some]))


def sets_of(base, machine, name, most=2000):
    """The sets that come up for some, rising tuples in order, or None where more than most come up."""
    many = len(all_letters(base, len(other_names(machine, name))))
    growth = sets_growth(base, machine, name)
    grown = grown_from(growth[0], many, growth[1], growth[2], most)
    if grown is None:
        return None
    return grown[0]


def some_of(base, machine, name, most=2000):
    """The machine of some, not thinned, or None where more than most sets come up."""
    if name not in machine[0]:
        return machine
    return machine_of(base, other_names(machine, name), sets_growth(base, machine, name), most)


def each_of(base, machine, name, most=2000):
    """The machine of each, as not some not, or None where more than most sets come up."""
    told = some_of(base, turned_no(machine), name, most)
    if told is None:
        return None
    return turned_no(told)
