"""Integers: which values are some, and their texts."""


def is_integer(value):
    """Whether any value is an int that is not a bool."""
    return isinstance(value, int) and not isinstance(value, bool)


# Python refuses to write or read more than 4300 figures at once, and numbers
# that were told and handed in again have more soon: so both go by 60 figures.


def integer_text(number):
    """The integer as Python writes it, however great it is."""
    left = abs(number)
    pieces = []
    while left >= 10 ** 60:
        left, low = divmod(left, 10 ** 60)
        pieces.append(str(low).zfill(60))
    pieces.append(str(left))
    if number < 0:
        pieces.append("-")
    return "".join(pieces[::-1])


def _number_of(figures):
    """The number that these figures tell, zeros in front of it or not."""
    head = len(figures) % 60
    number = int("0" + figures[:head])
    for at in range(head, len(figures), 60):
        number = number * 10 ** 60 + int(figures[at:at + 60])
    return number


def read_integer(word):
    """The integer that Python writes so; None if it writes none so."""
    below = word.startswith("-")
    figures = word[1:] if below else word
    if not figures or not all([sign in "0123456789" for sign in figures]):
        return None
    number = -_number_of(figures) if below else _number_of(figures)
    # Only the text tells 01 and -0 from 1 and 0.
    return number if integer_text(number) == word else None
