"""Terms, sayings and worlds written as texts."""

from figurejudge.sayings import parts_in_order, told_of_parts


def show_part(part):
    """A term's part written: the times, where they aren't 1, and the name."""
    name = part[0]
    times = part[1]
    return name if times == 1 else f"{times}{name}"


def show_term(term):
    """A term written: its parts, and the number last where it isn't 0 or stands alone."""
    pieces = [show_part(part) for part in term[1]]
    if term[0] != 0 or not pieces:
        pieces.append(str(term[0]))
    return "+".join(pieces)


def show_at(name, term):
    """A row at a term written."""
    inside = show_term(term)
    return f"{name}[{inside}]"


def show_atom(saying):
    """A same, less, sign or alike written."""
    word = saying[0]
    if word == "same":
        return show_term(saying[1]) + " = " + show_term(saying[2])
    if word == "less":
        return show_term(saying[1]) + " < " + show_term(saying[2])
    if word == "sign":
        return show_at(saying[1], saying[2]) + " = " + str(saying[3])
    return show_at(saying[1], saying[2]) + " ~ " + show_at(saying[3], saying[4])


def show_over(saying, inner):
    """A saying written, where inner holds the texts of its parts."""
    word = saying[0]
    if word == "not":
        return "not " + inner[0]
    if word in ("and", "or"):
        return "(" + inner[0] + " " + word + " " + inner[1] + ")"
    if word in ("some", "each"):
        return word + " " + saying[1] + " " + inner[0]
    return show_atom(saying)


def show_saying(saying):
    """A saying written."""
    texts = {}
    for place, part in parts_in_order(saying):
        texts[place] = show_over(part, told_of_parts(texts, place, part))
    return texts[()]


def show_room(sign, leads):
    """A room of a row written: its sign and its moves."""
    return str(sign) + ":" + ".".join([str(room) for room in leads])


def show_row(name, row):
    """A row of a world written."""
    rooms = [show_room(sign, leads) for sign, leads in zip(row[0], row[1])]
    return " ".join(["row", name] + rooms)


def show_world(world):
    """A world written: its base, and its rows in the order of their names."""
    base = world[0]
    rows = [show_row(name, world[1][name]) for name in sorted(world[1])]
    return "\n".join([f"base {base}"] + rows)
