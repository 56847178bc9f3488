"""The kinds of a picture's parts, and those of them that are needed beside faces that are had."""


def part_kinds(faces, face):
    """The kinds of the picture's parts, the deeper first, of one depth the lesser number first."""
    return needed(faces, face, [])


def needed(faces, face, have):
    """The kinds needed of the picture beside the faces that are had, in the same order."""
    had = {faces.kind(one): True for one in have}
    found = {}
    waiting = [face]
    while waiting:
        part = waiting.pop()
        kind = faces.kind(part)
        # Turned pictures have turned parts, so one picture of a kind stands for all of that kind.
        if faces.colour(part) is None and kind not in had and kind not in found:
            found[kind] = True
            waiting.extend(faces.quarters(part))
    return sorted(list(found), key=lambda told: (-faces.depth(told), told))
