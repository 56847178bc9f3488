"""The eight turnings of a square, numbered from 0 to 7."""

# The turnings from this number on mirror first and then make their quarter turns.
MIRROR = 4


def goes_to(turning, size, x, y):
    """The cell to which the cell (x, y) of a picture with so many columns and rows goes."""
    if turning >= MIRROR:
        x = size - 1 - x
    for step in range(turning % MIRROR):
        x, y = size - 1 - y, x
    return (x, y)


def after(one, other):
    """The turning that does the one and then the other."""
    turns = one % MIRROR
    if other >= MIRROR:
        # A mirror makes the clockwise turns ahead of it run the other way round.
        turns = -turns
    mirrored = (one >= MIRROR) != (other >= MIRROR)
    return (turns + other) % MIRROR + (MIRROR if mirrored else 0)


def back_of(turning):
    """The turning that takes a turning back."""
    if turning >= MIRROR:
        return turning
    return -turning % MIRROR
