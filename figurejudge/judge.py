"""Sayings judged: true or untrue, and the first numbers of which they hold or don't."""

from figurejudge.joined import turned_no
from figurejudge.machines import says_yes
from figurejudge.maker import machines_of, made_of
from figurejudge.order import first_of
from figurejudge.papers import paper_from
from figurejudge.sayings import inner_parts


def judged(world, saying):
    """Whether a saying without free names is true."""
    return says_yes(world[0], made_of(world, saying), ())


def judged_each(world, saying):
    """Of an each without free names: true with the paper of what is said, or untrue with the least number."""
    inside = saying[2]
    machines = machines_of(world, inside)
    counter = first_of(world[0], turned_no(machines[()]))
    if counter is None:
        # A same, less, sign or alike has no parts and so no paper.
        return ("true", paper_from(world[0], inside, machines) if inner_parts(inside) else [])
    # Where the name isn't free inside, what is said there is untrue whatever the number.
    return ("untrue", counter[0] if counter else 0)


def witness_of(world, saying):
    """The first tuple of numbers, one for each free name in order, of which a saying holds, or None."""
    return first_of(world[0], made_of(world, saying))


def counter_of(world, saying):
    """The first tuple of numbers, one for each free name in order, of which a saying does not hold, or None."""
    return first_of(world[0], turned_no(made_of(world, saying)))
