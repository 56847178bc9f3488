"""What points 14 to 16 ask of a plan, reckoned anew, to hold plans against."""

from glazing import stand
from murrine.deeds import is_deed
from murrine.plans import plan

ROD_PLACES = {"gather": 0, "pull": 1, "bundle": 4, "turn": 1, "cut": 1, "fuse": 2}


def kind_of(faces, face):
    """The kind of a face by the words of point 6."""
    return min(faces.turned(face, turning) for turning in range(8))


def glass_of(pieces):
    """The glass of pieces, each a thickness and a length."""
    return sum(length * 4 ** thickness for thickness, length in pieces)


def reckoned(faces, face, thickness, length, have):
    """By kind: how each needed kind is bundled, and all pieces, by the words of point 14."""
    had = {kind_of(faces, one) for one in have}
    pieces = {kind_of(faces, face): [(thickness, length)]}
    bundlings = {}
    for depth in range(12, 0, -1):
        for kind in [kind for kind in pieces if faces.depth(kind) == depth and kind not in had]:
            thick = max(piece[0] for piece in pieces[kind])
            glass, cells = glass_of(pieces[kind]), 4 ** thick
            long = glass // cells if glass % cells == 0 else glass // cells + 1
            bundlings[kind] = (thick, long)
            for quarter in faces.quarters(kind):
                pieces.setdefault(kind_of(faces, quarter), []).append((thick - 1, long))
    return bundlings, pieces


def reach(shop, face, thickness, length, use):
    """Whether the rods to be used reach, by the words of point 15."""
    faces = shop.store()
    rods = [shop.rod(number) for number in use]
    pieces = reckoned(faces, face, thickness, length, [rod[0] for rod in rods])[1]
    for kind in {kind_of(faces, rod[0]) for rod in rods}:
        if faces.depth(kind) > 0:
            mine = [rod[1:] for rod in rods if kind_of(faces, rod[0]) == kind]
            for least in {piece[0] for piece in pieces.get(kind, [])}:
                wanted = glass_of([piece for piece in pieces[kind] if piece[0] >= least])
                if glass_of([rod for rod in mine if rod[0] >= least]) < wanted:
                    return False
    return True


def check_plan(test, shop, face, thickness, length, use):
    """Makes a plan, holds it against points 14 to 16, and gives it together with the shop in which it was done."""
    faces, before, handed = shop.store(), stand(shop), list(use)
    told = plan(shop, face, thickness, length, use)
    test.assertIsInstance(told, tuple)
    deeds, number = told
    test.assertIsInstance(deeds, list)
    test.assertTrue(all(isinstance(deed, tuple) and is_deed(deed) for deed in deeds), deeds)
    test.assertEqual((stand(shop), use), (before, handed))
    made = shop.twin()
    bundled = do_plan(test, made, deeds, handed)
    test.assertEqual(made.rod(number), (face, thickness, length))
    have = [shop.rod(one)[0] for one in use]
    bundlings, pieces = reckoned(faces, face, thickness, length, have)
    test.assertEqual(sorted(bundled), sorted((kind, *bundlings[kind]) for kind in bundlings))
    check_glass(test, shop, made, pieces)
    for one in shop.rods():
        if one not in use:
            test.assertEqual(made.rod(one), shop.rod(one))
    return deeds, number, made


def do_plan(test, shop, deeds, use):
    """Does the deeds of a plan, each for rods of its own; gives the kind, thickness and length of each bundling."""
    bundled, own = [], set(use)
    for deed in deeds:
        test.assertIn(deed[0], ROD_PLACES)
        touched = deed[1:1 + ROD_PLACES[deed[0]]]
        test.assertLessEqual(set(touched), own)
        answer = shop.do(deed)
        own.add(answer)
        if deed[0] == "bundle":
            face, thick, long = shop.rod(answer)
            bundled.append((kind_of(shop.store(), face), thick, long))
    return bundled


def check_glass(test, shop, made, pieces):
    """Nothing was sold or wasted, and all plain pieces were gathered."""
    plain = [kind for kind in pieces if shop.store().depth(kind) == 0]
    wanted = {shop.store().colour(kind): glass_of(pieces[kind]) for kind in plain}
    for colour in range(10):
        was, now = shop.glass()[colour], made.glass()[colour]
        test.assertEqual(was[2:], now[2:])
        test.assertGreaterEqual(now[0] - was[0], wanted.get(colour, 0))
