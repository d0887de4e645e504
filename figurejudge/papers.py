"""Papers: that a saying's machine does what the machines of its parts and the word between say."""

from figurejudge.hidden import sets_growth
from figurejudge.joined import both_growth, either_growth, turned_no
from figurejudge.machines import grown_from
from figurejudge.maker import machines_of
from figurejudge.sayings import told_of_parts


def no_growth(growth):
    """The same growth, yes turned about."""
    return (growth[0], growth[1], lambda room: not growth[2](room))


def rooms_growth(machine):
    """How the rooms of a machine grow: first, onward, is_yes."""
    return (0, lambda room, letter: machine[2][room][letter], lambda room: machine[1][room])


def alone(growth):
    """The same growth, each room in a tuple by itself."""
    onward = lambda one, letter: (growth[1](one[0], letter),)
    return ((growth[0],), onward, lambda one: growth[2](one[0]))


def parts_growth(base, saying, inner):
    """How that grows which stands in a paper beside the saying's rooms: first, onward, is_yes, of tuples."""
    word = saying[0]
    if word == "not":
        return alone(no_growth(rooms_growth(inner[0])))
    if word == "and":
        return both_growth(base, inner[0], inner[1])
    if word == "or":
        return either_growth(base, inner[0], inner[1])
    if word == "some":
        return alone(sets_growth(base, inner[0], saying[1]))
    return alone(no_growth(sets_growth(base, turned_no(inner[0]), saying[1])))


def rows_growth(base, saying, machines):
    """How the tuples of a saying's paper grow: first, onward, is_yes; yes is where the room's is what the word says."""
    yes = machines[()][1]
    moves = machines[()][2]
    parts = parts_growth(base, saying, told_of_parts(machines, (), saying))
    onward = lambda row, letter: (moves[row[0]][letter],) + parts[1](row[1:], letter)
    return ((0,) + parts[0], onward, lambda row: yes[row[0]] == parts[2](row[1:]))


def paper_from(base, saying, machines):
    """The paper of a not, and, or, some or each, sorted, by the machines of it and its parts."""
    growth = rows_growth(base, saying, machines)
    many = len(machines[()][2][0])
    # No more tuples come up than rooms did at the saying, and those were let.
    grown = grown_from(growth[0], many, growth[1], growth[2])
    return sorted(grown[0])


def paper_of(world, saying):
    """The paper of a not, and, or, some or each, sorted."""
    return paper_from(world[0], saying, machines_of(world, saying))


def paper_holds(world, saying, paper):
    """Whether a paper holds: the firsts are in it, it is shut under all letters, and all yes are right."""
    machines = machines_of(world, saying)
    growth = rows_growth(world[0], saying, machines)
    onward = growth[1]
    is_right = growth[2]
    many = len(machines[()][2][0])
    there = dict([(row, True) for row in paper])
    if growth[0] not in there:
        return False
    for row in there:
        if not is_right(row):
            return False
        if not all([onward(row, letter) in there for letter in range(many)]):
            return False
    return True
