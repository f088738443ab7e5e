"""Shapes of all sorts, made by chance from seeds, for the tests."""

import random

LARGE = 10 ** 30 - 1


def number_names(chance, many):
    """Whole numbers with gaps, some below nought."""
    names = chance.sample(range(-2 * many, 3 * many), many)
    if many > 4:
        names[:2] = [LARGE, -LARGE]
    return names


def plain_names(chance, many):
    return list(range(many))


def mark_names(chance, many):
    points = [("point", p) for p in chance.sample(range(3 * many), many)]
    overs = list({("over", *chance.sample(range(3 * many), 2)) for k in range(many)})
    names = chance.sample(points + overs, many)
    if many > 4 and ("over", LARGE, 0) not in names:
        names[0] = ("over", LARGE, 0)
    return names


def linked(chance, names, turned, hung, tops):
    """A shape of these names: each one a top with nobody above, or put below one that is there already."""
    rows = {}
    for name in chance.sample(names, len(names)):
        rows[name] = [None, None, None, turned and chance.random() < 0.4]
        places = [(other, side) for other in rows if other != name for side in (0, 1) if rows[other][side] is None]
        if len(rows) == 1 or chance.random() < tops:
            continue
        if not places or chance.random() < hung:
            rows[name][2] = chance.choice([other for other in rows if other != name])
        else:
            other, side = chance.choice(places)
            rows[other][side] = name
            rows[name][2] = other
    return tuple((name, *rows[name]) for name in sorted(rows))


def shape_of(seed, many, maker=number_names, turned=False, hung=0.2, tops=0.1):
    chance = random.Random(f"{seed} {many} {maker.__name__} {turned}")
    return linked(chance, maker(chance, many), turned, hung, tops)


def chain(names, side):
    """One tree in which each name is the left or the right one of the one ahead."""
    rows = []
    for k, name in enumerate(names):
        below = names[k + 1] if k + 1 < len(names) else None
        left, right = (below, None) if side == "left" else (None, below)
        rows.append((name, left, right, names[k - 1] if k else None, False))
    return tuple(sorted(rows))


def hung_chain(names):
    """Each name a strand of its own, hung below the one ahead."""
    return tuple(sorted((name, None, None, names[k - 1] if k else None, False) for k, name in enumerate(names)))


def shapes(turned=False, makers=(number_names, plain_names, mark_names), most=40):
    """Shapes of up to so many names: one tree, several, with and without hung ones."""
    found = [()]
    for maker in makers:
        for many in (1, 2, 3, 5, 9, 17, 40):
            if many <= most:
                for seed, (hung, tops) in enumerate([(0, 0), (0, 0.3), (0.3, 0), (0.3, 0.2), (1, 0.1), (0.1, 0)]):
                    found.append(shape_of(seed, many, maker, turned, hung, tops))
        names = maker(random.Random(3), min(most, 12))
        found += [chain(names, "left"), chain(names, "right"), hung_chain(names)]
    return found
