"""The desk: it has a world, and answers rows of text."""

from figurejudge.errors import NoSaying, NoText
from figurejudge.machines import says_yes
from figurejudge.maker import made_of
from figurejudge.order import first_of, first_tuples
from figurejudge.reading import read_saying, read_world
from figurejudge.same import compared_machines
from figurejudge.sayings import MOST_FREE, free_names, look_saying

MOST_MADE = 200


def shown_each(numbers):
    """The text of each of some numbers."""
    return [str(number) for number in numbers]


def show_numbers(numbers):
    """Numbers parted by blanks."""
    return " ".join(shown_each(numbers))


def judge_answer(world, text):
    """Whether the saying is true."""
    saying = read_saying(text)
    look_saying(world, saying)
    if free_names(saying):
        raise NoSaying(())
    return "true" if says_yes(world[0], made_of(world, saying, MOST_MADE), ()) else "untrue"


def open_machine(world, text):
    """The machine of a saying that has free names."""
    saying = read_saying(text)
    look_saying(world, saying)
    if not free_names(saying):
        raise NoSaying(())
    return made_of(world, saying, MOST_MADE)


def where_answer(world, text):
    """The first numbers of which the saying holds."""
    numbers = first_of(world[0], open_machine(world, text))
    return "none" if numbers is None else show_numbers(numbers)


def first_answer(world, text):
    """The first tuples of which the saying holds, as many as are asked for."""
    parted = text.partition(" ")
    if parted[0] not in ("1", "2", "3", "4", "5", "6", "7", "8", "9"):
        raise NoText()
    tuples = first_tuples(world[0], open_machine(world, parted[2]), int(parted[0]))
    return "; ".join([show_numbers(numbers) for numbers in tuples]) if tuples else "none"


def alike_answer(world, text):
    """Whether two sayings are alike, or where they part."""
    sayings = [read_saying(piece) for piece in text.split(" | ")]
    if len(sayings) != 2:
        raise NoText()
    for saying in sayings:
        look_saying(world, saying)
    if len(set(free_names(sayings[0]) + free_names(sayings[1]))) > MOST_FREE:
        raise NoSaying(())
    machines = [made_of(world, saying, MOST_MADE) for saying in sayings]
    told = compared_machines(world[0], machines[0], machines[1])
    if told[0] == "alike":
        pairs = len(told[1])
        return f"alike {pairs}"
    return " ".join(["part"] + shown_each(told[1]))


class Desk:
    """A desk with a world, which its text tells."""

    def __init__(self, text):
        self.world = read_world(text)

    def say(self, row):
        """The answer to a row."""
        parted = row.partition(" ")
        if parted[0] == "judge":
            return judge_answer(self.world, parted[2])
        if parted[0] == "where":
            return where_answer(self.world, parted[2])
        if parted[0] == "first":
            return first_answer(self.world, parted[2])
        if parted[0] == "alike":
            return alike_answer(self.world, parted[2])
        raise NoText()
