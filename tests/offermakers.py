"""Offers of all sorts, for the tests."""

import itertools
import random

from tests.rowmakers import LARGE


def by_chance(many, length, seed, prices=(0, 1, 2, 3, 4)):
    """So many offers between points by chance, some of them from a point to itself."""
    chance = random.Random(f"{many} {length} {seed}")
    return tuple((chance.randrange(many), chance.randrange(many), chance.choice(prices)) for k in range(length))


def all_offers(many, length, prices):
    """Each row of so many offers there can be."""
    one = [(a, b, price) for a in range(many) for b in range(many) for price in prices]
    return itertools.product(one, repeat=length)


def middling_offers():
    """Pairs (many, offers) of up to a few dozen offers."""
    found = [(1, ()), (5, ()), (1, ((0, 0, 1), (0, 0, 0), (0, 0, 7)))]
    found.append((2, tuple((k % 2, 1 - k % 2, price) for k, price in enumerate((5, 7, 5, 4, 4, 3, 9, 0, 0)))))
    found.append((3, ((0, 1, LARGE), (1, 2, LARGE - 1), (2, 0, LARGE), (0, 2, LARGE - 2), (1, 1, 0), (1, 0, 1))))
    found.append((4, tuple((a, b, 1) for a in range(4) for b in range(4))))
    found.append((6, tuple((k, (k + 1) % 6, 6 - k) for k in range(6)) * 2))
    found.append((7, tuple((k, (k + 1) % 7, k) for k in range(7)) + tuple((k, (k + 3) % 7, 3) for k in range(7))))
    found.append((9, tuple((0, k, k % 3) for k in range(1, 9)) + tuple((k, k - 1, 1) for k in range(2, 9))))
    for many, length in ((2, 6), (4, 15), (6, 25), (10, 30), (15, 20), (20, 45)):
        for seed, prices in enumerate([(0,), (1,), (0, 1, 2, 3, 4), range(100), (LARGE, LARGE - 1, LARGE - 2, 0)]):
            found.append((many, by_chance(many, length, seed, prices)))
    return found


def great_offers():
    """Pairs (many, offers) of a hundred points and two hundred offers."""
    found = [(100, by_chance(100, 200, seed, prices)) for seed, prices in enumerate([range(4), range(1000), (7,)])]
    ring = tuple((k, (k + 1) % 100, (37 * k) % 100) for k in range(100))
    found.append((100, ring + tuple((b, a, 99 - price) for a, b, price in ring)))
    found.append((1, tuple((0, 0, k % 3) for k in range(200))))
    found.append((2, tuple((0, 1, 200 - k) for k in range(200))))
    return found


def pairs_of(offers):
    """The same offers without prices."""
    return tuple((a, b) for a, b, price in offers)
