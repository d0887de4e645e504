"""The maker: a saying's machine, made from the machines of its parts, each of them thinned."""

from figurejudge.atoms import atom_of
from figurejudge.errors import TooMany
from figurejudge.hidden import each_of, some_of
from figurejudge.joined import both_of, either_of, turned_no
from figurejudge.sayings import parts_in_order, told_of_parts
from figurejudge.thin import thinned


def put_together(world, saying, inner, most):
    """A saying's machine by its parts' machines, not thinned, or None where more than most rooms come up."""
    base = world[0]
    word = saying[0]
    if word == "not":
        return turned_no(inner[0])
    if word == "and":
        return both_of(base, inner[0], inner[1], most)
    if word == "or":
        return either_of(base, inner[0], inner[1], most)
    if word == "some":
        return some_of(base, inner[0], saying[1], most)
    if word == "each":
        return each_of(base, inner[0], saying[1], most)
    return atom_of(world, saying, most)


def machines_of(world, saying, most=300):
    """A dict of the thinned machines of a saying and all its parts, by their places."""
    machines = {}
    for place, part in parts_in_order(saying):
        made = put_together(world, part, told_of_parts(machines, place, part), most)
        if made is None:
            raise TooMany(place)
        machines[place] = thinned(made)
    return machines


def made_of(world, saying, most=300):
    """The thinned machine of a saying; refused where more than most rooms come up at a part."""
    return machines_of(world, saying, most)[()]
