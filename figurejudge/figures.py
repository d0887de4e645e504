"""Numbers by their figures in a base, from the ones on, and tuples of numbers by their letters."""


def figures_of(base, number):
    """The figures of a number from the ones on, the last one not 0."""
    figures = []
    while number > 0:
        figures.append(number % base)
        number = number // base
    return figures


def number_of(base, some):
    """The number that has these figures, noughts behind the last one let by."""
    number = 0
    for figure in reversed(some):
        number = number * base + figure
    return number


def all_letters(base, many):
    """All letters of so many numbers, in the order of tuples."""
    letters = [()]
    for spot in range(many):
        longer = []
        for letter in letters:
            longer.extend([letter + (figure,) for figure in range(base)])
        letters = longer
    return letters


def letter_at(base, rows, place):
    """The number of the letter at a place, of numbers that are told by their rows of figures."""
    letter = 0
    for row in rows:
        figure = row[place] if place < len(row) else 0
        letter = letter * base + figure
    return letter


def letters_of(base, numbers):
    """The numbers of a tuple's letters, from place 0 up to the last figure of all."""
    rows = [figures_of(base, number) for number in numbers]
    places = max([len(row) for row in rows], default=0)
    return [letter_at(base, rows, place) for place in range(places)]


def letter_of(base, many, letter):
    """The letter that has this number, of so many numbers, as a list of figures."""
    figures = figures_of(base, letter)
    noughts = [0] * (many - len(figures))
    return noughts + list(reversed(figures))


def numbers_of(base, many, some):
    """The tuple of so many numbers that has the letters of these numbers, from place 0 on."""
    letters = [letter_of(base, many, letter) for letter in some]
    numbers = []
    for spot in range(many):
        numbers.append(number_of(base, [letter[spot] for letter in letters]))
    return tuple(numbers)


def is_ahead(base, one, other):
    """Whether the one tuple is ahead of the other, of as many numbers."""
    left = letters_of(base, one)
    right = letters_of(base, other)
    # The last letter is never all noughts, so at the greatest place of the longer list the shorter one has less.
    if len(left) != len(right):
        return len(left) < len(right)
    return list(reversed(left)) < list(reversed(right))
