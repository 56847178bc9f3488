"""Pictures as lists of rows, reckoned cell by cell, to hold the program's answers against."""

import random
import sys

from murrine.errors import NoFace


def turned_rows(rows, turning):
    """A turned square of rows: mirrored from turning 4 on, then turned clockwise."""
    if turning >= 4:
        rows = [list(row)[::-1] for row in rows]
    for _ in range(turning % 4):
        rows = [list(column) for column in zip(*rows[::-1])]
    return [list(row) for row in rows]


def quarter_rows(rows):
    """The four quarters of rows, in the order of the document."""
    half = len(rows) // 2
    return [
        [row[left:left + half] for row in rows[top:top + half]]
        for top in (0, half)
        for left in (0, half)
    ]


def face_of_rows(faces, rows):
    """The face of rows of colours, met quarter by quarter."""
    if len(rows) == 1:
        return faces.plain(rows[0][0])
    return faces.four(*[face_of_rows(faces, part) for part in quarter_rows(rows)])


def rows_by_quarters(faces, face, depth):
    """The rows of a face at a depth, told by its quarters alone."""
    if depth == 0:
        return [[faces.colour(face)]]
    a, b, c, d = [rows_by_quarters(faces, part, depth - 1) for part in faces.quarters(face)]
    return [one + other for one, other in zip(a + c, b + d)]


def rows_by_cells(faces, face, depth):
    """The rows of a face at a depth, told cell by cell."""
    size = 2 ** depth
    return [[faces.cell(face, depth, x, y) for x in range(size)] for y in range(size)]


def some_rows(seed, depth, colours):
    """Rows that look like chance but are the same on each run."""
    chance = random.Random(seed)
    size = 2 ** depth
    return [[chance.choice(colours) for _ in range(size)] for _ in range(size)]


def met(faces):
    """How many faces a store has."""
    count = 0
    while True:
        try:
            faces.depth(count)
        except NoFace:
            return count
        count += 1


def deep_pair(faces, depth):
    """Two unlike pictures of a depth without a plain part, and the cells of colours 1 and 2 that each has."""
    one, other = faces.plain(1), faces.plain(2)
    in_one, in_other = (1, 0), (0, 1)
    for _ in range(depth):
        one, other = faces.four(one, other, other, one), faces.four(other, one, one, one)
        in_one, in_other = (
            (2 * in_one[0] + 2 * in_other[0], 2 * in_one[1] + 2 * in_other[1]),
            (3 * in_one[0] + in_other[0], 3 * in_one[1] + in_other[1]),
        )
    return one, other, in_one, in_other


def at_once(work, most=100000):
    """Does the work, and fails as soon as more lines than that are run for it."""
    count = 0

    def trace(frame, event, told):
        nonlocal count
        if event == "line":
            count += 1
            if count > most:
                raise AssertionError("too many steps for one call")
        return trace

    before = sys.gettrace()
    sys.settrace(trace)
    try:
        return work()
    finally:
        sys.settrace(before)


def all_told(faces):
    """What a store tells of each of its faces, to see that a refused call changed nothing."""
    return [
        (faces.depth(face), faces.quarters(face), faces.colour(face), faces.counts(face, 12))
        for face in range(met(faces))
    ]


def texts(rows):
    """Rows of colours as the texts of a small picture."""
    return ["".join(str(colour) for colour in row) for row in rows]
