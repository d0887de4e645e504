"""Sayings and worlds read from texts; each other text is refused."""

from figurejudge.errors import NoText
from figurejudge.rows import look_world

SMALL = "abcdefghijklmnopqrstuvwxyz"
GREAT = "ABCDEFGHIJKLMNOPQRSTUVWXYZ"
FIGURES = "0123456789"
TERM_SIGNS = "abcdefghijklmnopqrstuvwxyz0123456789+"

LONGEST_NAME = 3
MOST_ROOMS = 8
MOST_ROWS = 4


def due(text, at, piece):
    """Where the text goes on behind a piece that is due here."""
    if not text.startswith(piece, at):
        raise NoText()
    return at + len(piece)


def run_end(text, at, signs):
    """Where the run of such signs that begins here ends."""
    while at < len(text) and text[at] in signs:
        at = at + 1
    return at


def is_made_of(some, signs):
    """Whether a text has such signs alone."""
    return all([sign in signs for sign in some])


def read_name(some, signs):
    """A name of such letters."""
    if not 1 <= len(some) <= LONGEST_NAME or not is_made_of(some, signs) or some in ("not", "and", "or"):
        raise NoText()
    return some


def read_figure(some):
    """A number of one figure."""
    if len(some) != 1 or some not in FIGURES:
        raise NoText()
    return int(some)


def is_number(some):
    """Whether a text is a number to 99 with no nought ahead."""
    if not is_made_of(some, FIGURES):
        return False
    return len(some) == 1 or (len(some) == 2 and some[0] != "0")


def read_part(some):
    """A term's part: the name and its times, which are 1 where they aren't written."""
    if some[:1] in ("2", "3", "4", "5", "6", "7", "8", "9"):
        return (read_name(some[1:], SMALL), int(some[0]))
    return (read_name(some, SMALL), 1)


def read_term(some):
    """A term."""
    pieces = some.split("+")
    number = 0
    if is_number(pieces[-1]) and (some == "0" or pieces[-1] != "0"):
        number = int(pieces.pop())
    parts = [read_part(piece) for piece in pieces]
    names = [part[0] for part in parts]
    if names != sorted(set(names)):
        raise NoText()
    return (number, tuple(parts))


def term_at(text, at):
    """The pair of the term that stands here and where the text goes on."""
    end = run_end(text, at, TERM_SIGNS)
    return (read_term(text[at:end]), end)


def row_at(text, at):
    """The tuple of the row's name and the term that stand here, and where the text goes on."""
    end = run_end(text, at, GREAT)
    name = read_name(text[at:end], GREAT)
    term = term_at(text, due(text, end, "["))
    return (name, term[0], due(text, term[1], "]"))


def sides_at(text, at):
    """The pair of the same or less that stands here and where the text goes on."""
    one = term_at(text, at)
    word = "less" if text.startswith(" < ", one[1]) else "same"
    other = term_at(text, due(text, one[1], " < " if word == "less" else " = "))
    return ((word, one[0], other[0]), other[1])


def signs_at(text, at):
    """The pair of the sign or alike that stands here and where the text goes on."""
    one = row_at(text, at)
    if text.startswith(" = ", one[2]):
        place = one[2] + 3
        return (("sign", one[0], one[1], read_figure(text[place:place + 1])), place + 1)
    other = row_at(text, due(text, one[2], " ~ "))
    return (("alike", one[0], one[1], other[0], other[1]), other[2])


def atom_at(text, at):
    """The pair of the same, less, sign or alike that stands here and where the text goes on."""
    if run_end(text, at, GREAT) > at:
        return signs_at(text, at)
    return sides_at(text, at)


def opening_at(text, at):
    """The pair of the part that opens here, as far as it is known, and where the text goes on; None if none does."""
    if text.startswith("(", at):
        return (("(",), at + 1)
    if text.startswith("not ", at):
        return (("not",), at + 4)
    if text.startswith("some ", at) or text.startswith("each ", at):
        end = run_end(text, at + 5, SMALL)
        return ((text[at:at + 4], read_name(text[at + 5:end], SMALL)), due(text, end, " "))
    return None


def opened(text, at, waiting):
    """Where the text goes on behind all that opens here, which is put to what waits."""
    opening = opening_at(text, at)
    while opening is not None:
        waiting.append(opening[0])
        at = opening[1]
        opening = opening_at(text, at)
    return at


def closed(text, at, waiting, saying):
    """Put a saying to what waits for it: the pair of all that is whole then and where the text goes on.

    Where a further saying must come first, the pair has None.
    """
    while waiting:
        head = waiting.pop()
        if head[0] == "(":
            word = "or" if text.startswith(" or ", at) else "and"
            waiting.append((word, saying))
            return (None, due(text, at, f" {word} "))
        if head[0] in ("and", "or"):
            at = due(text, at, ")")
        saying = head + (saying,)
    return (saying, at)


def read_saying(text):
    """The saying that a text tells."""
    # A list of what waits, in the place of calls: a text may open as many parts as it has signs for.
    waiting = []
    told = (None, 0)
    while told[0] is None:
        atom = atom_at(text, opened(text, told[1], waiting))
        told = closed(text, atom[1], waiting, atom[0])
    if told[1] != len(text):
        raise NoText()
    return told[0]


def read_base(some):
    """The base that a world's first row tells."""
    if some not in ("base 2", "base 3", "base 4"):
        raise NoText()
    return int(some[-1])


def read_room(base, some):
    """The pair of a room's sign and its moves."""
    pieces = some.split(":")
    if len(pieces) != 2:
        raise NoText()
    leads = tuple([read_figure(piece) for piece in pieces[1].split(".")])
    if len(leads) != base:
        raise NoText()
    return (read_figure(pieces[0]), leads)


def read_row(base, some):
    """The pair of a row's name and the row."""
    words = some.split(" ")
    if words[0] != "row" or not 1 <= len(words) - 2 <= MOST_ROOMS:
        raise NoText()
    rooms = [read_room(base, word) for word in words[2:]]
    row = (tuple([room[0] for room in rooms]), tuple([room[1] for room in rooms]))
    return (read_name(words[1], GREAT), row)


def read_world(text):
    """The world that a text tells; then it is refused where a row of it is not right."""
    lines = text.split("\n")
    base = read_base(lines[0])
    rows = [read_row(base, line) for line in lines[1:]]
    names = [row[0] for row in rows]
    if len(rows) > MOST_ROWS or names != sorted(set(names)):
        raise NoText()
    world = (base, dict(rows))
    look_world(world)
    return world
