"""What the tests hand in: forests of all sorts, and things of any kind."""

import itertools
import random

from tests.brute import ringless

KINDS = "abcdefgh"

# A tree with two forks (0 to 5), a pair (6, 8), and a point alone (7).
FORK = (
    ((3, "a"), (1, "b"), (4, "c"), (1, "d"), (5, "e"), (9, "f"), (2, "g"), (6, "h"), (5, "a")),
    ((0, 2), (1, 2), (2, 4), (3, 4), (4, 5), (6, 8)))


def plain_points(many):
    """Points with worths that go up and down, some of them alike."""
    return tuple(((7 * k) % 5 - 2, KINDS[(3 * k) % 8]) for k in range(many))


def straight(many):
    return (plain_points(many), tuple((k, k + 1) for k in range(many - 1)))


def star(many):
    return (plain_points(many), tuple((0, k) for k in range(1, many)))


def comb(many):
    """A way of the even points, with an odd one hanging at each."""
    back = [(k, k + 2) for k in range(0, many - 2, 2)]
    teeth = [(k, k + 1) for k in range(0, many - 1, 2)]
    return (plain_points(many), tuple(sorted(back + teeth)))


def halving(many):
    """A tree in which each point has two below it."""
    return (plain_points(many), tuple(sorted(((k - 1) // 2, k) for k in range(1, many))))


def grown(many, seed, loose=0.0):
    """A tree grown by chance from a seed, its numbers mixed; some ties are left out where loose is more than 0."""
    chance = random.Random(seed)
    names = list(range(many))
    chance.shuffle(names)
    ties = []
    for k in range(1, many):
        if chance.random() >= loose:
            ties.append(tuple(sorted((names[k], names[chance.randrange(k)]))))
    points = tuple((chance.randint(-4, 4), chance.choice(KINDS[:4])) for k in range(many))
    return (points, tuple(sorted(ties)))


def small_forests(many):
    """Each forest there can be on so many points."""
    pairs = list(itertools.combinations(range(many), 2))
    for size in range(many):
        for ties in itertools.combinations(pairs, size):
            if ringless(many, ties):
                yield (plain_points(many), ties)


def middling_forests():
    """Forests of all sorts, up to about twenty points."""
    found = [straight(1), straight(2), straight(9), star(8), comb(11), halving(15)]
    found.append((plain_points(6), ()))
    found.extend(grown(many, many) for many in (3, 6, 10, 17))
    found.extend(grown(many, 100 + many, loose) for many in (5, 9, 20) for loose in (0.1, 0.3, 0.6))
    return found


def great_forests():
    """Forests of a hundred points."""
    found = [straight(100), star(100), comb(100), halving(100), (plain_points(100), ())]
    found.extend(grown(100, 7 + k, k / 20) for k in range(4))
    return found


class Hostile:
    """An object that can't be asked anything without an error."""

    def refuse(self, *told):
        raise RuntimeError("this thing was asked")

    __eq__ = __ne__ = __lt__ = __le__ = __gt__ = __ge__ = refuse
    __hash__ = __len__ = __bool__ = __iter__ = __getitem__ = __contains__ = refuse
    __int__ = __index__ = __add__ = __radd__ = refuse


def nested(kind, depth, core):
    thing = core
    for k in range(depth):
        thing = kind([thing])
    return thing


def odd_things():
    """Things of any kind, none of which is a forest, a row, a paper, a kind or a whole number."""
    things = [None, True, False, 0.0, 1.0, 2.5, float("nan"), float("inf"), 1j, b"", b"a", bytearray(b"a")]
    things += ["", "ab", "A", "way ", "1", "\n", "\ud800", "\u00e9", [], [1], [[]], (), ((),), ((), ()), ((), (), ())]
    things += [{}, {"a": 1}, {0: 1}, set(), {1}, frozenset(), frozenset([1]), object(), Hostile(), Hostile, int, tuple]
    things += [len, lambda: 0, range(3), iter([]), Ellipsis, NotImplemented, ValueError("x"), slice(1), memoryview(b"a")]
    things += [(Hostile(),), (Hostile(), Hostile()), ((Hostile(),), (Hostile(),)), [Hostile()]]
    things += [nested(tuple, 29, 1), nested(list, 30, 1), nested(tuple, 29, ("way", (0,))), nested(tuple, 29, Hostile())]
    return things


def fixed(things):
    """The things that can be copied and compared, so that a change in them would show."""
    return [thing for thing in things if isinstance(thing, (list, dict, set, tuple)) and "Hostile" not in repr(thing)]
