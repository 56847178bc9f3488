"""Small pictures: lists of rows, a figure for each cell, and the faces that show them."""

from murrine.errors import BadDepth, BadPicture

SIZES = (1, 2, 4, 8, 16, 32)
DEEPEST_ROWS = 5


def rows_of(faces, face, depth):
    """The rows of the picture at a depth, the uppermost first."""
    if depth < faces.depth(face) or depth > DEEPEST_ROWS:
        raise BadDepth("the picture has no rows at this depth")
    return part_rows(faces, face, depth, {})


def face_of(faces, rows):
    """The face of the picture that the rows show."""
    if not is_small_picture(rows):
        raise BadPicture("the rows are no small picture")
    parts = [[faces.plain(int(figure)) for figure in row] for row in rows]
    while len(parts) > 1:
        parts = merged(faces, parts)
    return parts[0][0]


def part_rows(faces, face, depth, known):
    """The rows of a part; those that are reckoned already stand in known, by face and depth."""
    colour = faces.colour(face)
    if colour is not None:
        size = 1 << depth
        return [str(colour) * size] * size
    if (face, depth) not in known:
        a, b, c, d = [part_rows(faces, part, depth - 1, known) for part in faces.quarters(face)]
        known[(face, depth)] = beside(a, b) + beside(c, d)
    return known[(face, depth)]


def beside(left, right):
    """The rows of two pictures side by side."""
    return [one + other for one, other in zip(left, right)]


def is_small_picture(rows):
    """Whether the texts are as many as a small picture has rows, each of as many figures."""
    size = len(rows)
    return size in SIZES and all([len(row) == size and is_figures(row) for row in rows])


def is_figures(row):
    """Whether a text is of figures alone."""
    return row.isascii() and row.isdigit()


def merged(faces, parts):
    """The faces of half as many columns and rows, each made of the four parts that stand together."""
    return [
        [faces.four(parts[y][x], parts[y][x + 1], parts[y + 1][x], parts[y + 1][x + 1])
         for x in range(0, len(parts), 2)]
        for y in range(0, len(parts), 2)
    ]
