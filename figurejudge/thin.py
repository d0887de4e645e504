"""Thinned machines: as few rooms as say the same; and the letters by which two rooms part."""

from figurejudge.machines import grown_from


def rooms_into(moves, letter):
    """For each room the rooms from which the letter leads to it."""
    into = [[] for leads in moves]
    for room, leads in enumerate(moves):
        into[leads[letter]].append(room)
    return into


def split_kind(kind, some, kinds, members):
    """Part some rooms of a kind from its others: the lesser side becomes a new kind."""
    inside = dict([(room, True) for room in some])
    rest = [room for room in members[kind] if room not in inside]
    if len(some) <= len(rest):
        members[kind] = rest
        lesser = some
    else:
        members[kind] = some
        lesser = rest
    for room in lesser:
        kinds[room] = len(members)
    members.append(lesser)


def split_kinds(some, kinds, members):
    """Part some rooms from all others of their kinds."""
    by_kind = {}
    for room in some:
        by_kind.setdefault(kinds[room], []).append(room)
    for kind in by_kind:
        if len(by_kind[kind]) < len(members[kind]):
            split_kind(kind, by_kind[kind], kinds, members)


def kinds_of(yes, moves):
    """For each room the number of its kind: two rooms are of one kind where no letters part them."""
    kinds = [1 if at else 0 for at in yes]
    members = [[room for room, at in enumerate(yes) if not at], [room for room, at in enumerate(yes) if at]]
    into = [rooms_into(moves, letter) for letter in range(len(moves[0]))]
    waiting = [0, 1]
    # All that lead into a kind are parted from all that don't. Once that is done, of a kind split in two the
    # lesser side alone need be looked at again: what leads to the other one is known by it.
    while waiting:
        known = len(members)
        goal = members[waiting.pop()]
        for before in into:
            some = []
            for room in goal:
                some.extend(before[room])
            split_kinds(some, kinds, members)
        waiting.extend(list(range(known, len(members))))
    return kinds


def thinned(machine):
    """The machine with the fewest rooms that says the same, rooms numbered as they come up."""
    yes = machine[1]
    moves = machine[2]
    kinds = kinds_of(yes, moves)
    # One room stands for each kind, by its number.
    stands = dict([(kind, room) for room, kind in enumerate(kinds)])
    onward = lambda kind, letter: kinds[moves[stands[kind]][letter]]
    grown = grown_from(kinds[0], len(moves[0]), onward, lambda kind: yes[stands[kind]], len(yes))
    return (machine[0], grown[1], grown[2])


def head_of(heads, room):
    """The room that heads all those that are joined with a room."""
    while heads[room] != room:
        # The way is halved for those who ask later.
        heads[room] = heads[heads[room]]
        room = heads[room]
    return room


def parting_of(machine, one, other):
    """The first of the shortest lists of letters that part two rooms, or None where none does."""
    yes = machine[1]
    moves = machine[2]
    if yes[one] != yes[other]:
        return []
    # Pairs in the order of the letters that lead to them. Rooms once met in a pair are joined: what parts two
    # joined ones parts one of those pairs, too, by letters that come ahead.
    heads = list(range(len(yes)))
    heads[one] = other
    met = [(one, other, [])]
    turn = 0
    while turn < len(met):
        pair = met[turn]
        for letter in range(len(moves[0])):
            left = moves[pair[0]][letter]
            right = moves[pair[1]][letter]
            if yes[left] != yes[right]:
                return pair[2] + [letter]
            if head_of(heads, left) != head_of(heads, right):
                heads[head_of(heads, left)] = head_of(heads, right)
                met.append((left, right, pair[2] + [letter]))
        turn = turn + 1
    return None
