"""What the document says of trees, reckoned once more, in as plain a way as can be, for the tests."""


def as_dict(shape):
    """name: [left, right, above, turned], to be changed."""
    return {row[0]: list(row[1:]) for row in shape}


def as_shape(rows):
    return tuple((name, *rows[name]) for name in sorted(rows))


def is_strand_top(rows, x):
    u = rows[x][2]
    return u is None or x not in rows[u][:2]


def strand_tops(rows):
    return [x for x in rows if is_strand_top(rows, x)]


def ancestors(rows, x):
    """x, the one above it, and so on; a ring is told by None."""
    found = []
    while x is not None:
        if x in found:
            return None
        found.append(x)
        x = rows[x][2]
    return found


def the_weights(shape):
    """A name weighs one, and what all that are straight below it weigh."""
    below = {row[0]: [] for row in shape}
    for row in shape:
        if row[3] is not None:
            below[row[3]].append(row[0])
    found = {}

    def weigh(name):
        found[name] = 1 + sum(weigh(other) for other in below[name])
        return found[name]

    for row in shape:
        if row[3] is None:
            weigh(row[0])
    return found


def halvings(many):
    count = 0
    while many != 1:
        many, count = many // 2, count + 1
    return count


def the_credit(shape):
    return sum(halvings(weight) for weight in the_weights(shape).values())


def the_turn(shape, x):
    """The shape in which x, not on top, is turned once: point [9], in a shape without turned names."""
    rows = as_dict(shape)
    u = rows[x][2]
    near = 0 if rows[u][0] == x else 1
    inner = rows[x][1 - near]
    place = rows[u][2]
    if place is not None and u in rows[place][:2]:
        rows[place][rows[place].index(u)] = x
    rows[x][2], rows[u][2] = place, x
    rows[u][near], rows[x][1 - near] = inner, u
    if inner is not None:
        rows[inner][2] = u
    return as_shape(rows)


def the_lift(shape, x):
    """(names, shape): x lifted in its strand, as point [9] tells."""
    names = []

    def turn(y):
        nonlocal shape
        shape = the_turn(shape, y)
        names.append(y)

    rows = as_dict(shape)
    while not is_strand_top(rows, x):
        u = rows[x][2]
        if is_strand_top(rows, u):
            turn(x)
        elif rows[u].index(x) == rows[rows[u][2]].index(u):
            turn(u)
            turn(x)
        else:
            turn(x)
            turn(x)
        rows = as_dict(shape)
    return tuple(names), shape


def the_order(rows, x, about=False):
    """The order of a strand from x down, turned names heeded."""
    if x is None:
        return []
    left, right, above, turned = rows[x]
    about = about != turned
    if about:
        left, right = right, left
    return [*the_order(rows, left, about), x, *the_order(rows, right, about)]


def the_ties(shape):
    rows = as_dict(shape)
    ties = set()
    for top in strand_tops(rows):
        order = the_order(rows, top)
        pairs = list(zip(order, order[1:]))
        if rows[top][2] is not None:
            pairs.append((order[0], rows[top][2]))
        ties |= {tuple(sorted(pair)) for pair in pairs}
    return tuple(sorted(ties))


def the_untwisted(shape):
    """Each name's left and right exchanged where an odd number of turned ones is at or above it in its strand."""
    rows = as_dict(shape)
    plain = {}
    for name, (left, right, above, turned) in rows.items():
        odd, x = turned, name
        while not is_strand_top(rows, x):
            x = rows[x][2]
            odd = odd != rows[x][3]
        plain[name] = [right, left, above, False] if odd else [left, right, above, False]
    return as_shape(plain)


def the_step(shape, step):
    """The shape behind a step that has the right form and a name that is there, None where it can't be."""
    word, x = step
    rows = as_dict(shape)
    if word == "turn":
        return None if is_strand_top(rows, x) else the_turn(shape, x)
    if not is_strand_top(rows, x):
        return None
    if word == "let":
        rows[x][1] = None
        return as_shape(rows)
    u = rows[x][2]
    if u is None or not is_strand_top(rows, u) or rows[u][1] is not None:
        return None
    rows[u][1] = x
    return as_shape(rows)


def the_leading(shape, p):
    """(steps, shape): p led up in an untwisted shape, as point [14] tells."""
    steps = []

    def step(word, x):
        nonlocal shape
        shape = the_step(shape, (word, x))
        assert shape is not None
        steps.append((word, x))

    def lift(x):
        for name in the_lift(shape, x)[0]:
            step("turn", name)

    lift(p)
    step("let", p)
    while True:
        rows = as_dict(shape)
        top = [x for x in ancestors(rows, p) if is_strand_top(rows, x)][0]
        if rows[top][2] is None:
            break
        lift(rows[top][2])
        step("let", rows[top][2])
        step("hang", top)
    lift(p)
    return tuple(steps), shape


def is_linked(shape):
    """Point [10] of rows that have the right form and unlike names, rising."""
    rows = as_dict(shape)
    for name, (left, right, above, turned) in rows.items():
        if left is not None and left == right:
            return False
        if any(other is not None and other not in rows for other in (left, right, above)):
            return False
        if any(child is not None and rows[child][2] != name for child in (left, right)):
            return False
    return all(ancestors(rows, name) is not None for name in rows)
