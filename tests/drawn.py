"""Desks for the tests, as lists of pairs: drawn by numbers that are the same in every run."""

from random import Random

# Desks that show one thing each.
PICKED = [
    [],
    [(0, 0)],
    [(30, 30)],
    [(0, 30)],
    [(30, 0)],
    [(29, 30)],
    [(0, 5), (3, 2)],
    [(0, 5), (5, 0), (3, 2)],
    [(0, 5), (3, 3)],
    [(0, 5), (5, 5)],
    [(0, 5), (0, 0)],
    [(0, 5), (5, 0)],
    [(0, 5), (5, 0), (2, 2)],
    [(0, 5), (2, 1), (4, 3)],
    [(0, 5), (1, 3), (3, 1)],
    [(0, 5), (0, 5), (2, 4), (4, 2)],
    [(0, 5), (0, 5), (2, 4), (4, 3)],
    [(0, 2), (2, 0), (1, 1)],
    [(2, 0), (1, 3)],
    [(4, 4), (4, 4), (4, 4)],
    [(0, 1), (1, 2), (2, 3)],
    [(3, 0), (3, 0), (0, 3)],
    [(9, 0), (20, 11), (12, 20), (0, 9)],
    [(0, 30), (15, 15), (20, 10), (30, 30)],
    [(5, 4), (4, 5), (6, 6), (7, 8), (8, 7)],
    [(1, 6), (1, 6), (6, 1), (3, 3)],
]


def drawn_pairs(random, many, low, high):
    return [(random.randint(low, high), random.randint(low, high)) for _ in range(many)]


def small_desk(random, most):
    """A desk of few heights: equal tickets, tickets (x, x), islands and parts are frequent there."""
    width = random.choice([1, 2, 3, 4, 6, 30])
    low = random.choice([0, 30 - width, random.randint(0, 30 - width)])
    pairs = drawn_pairs(random, random.randint(0, most), low, low + width)
    return [random.choice(pairs) for _ in pairs] if random.random() < 0.3 else pairs


def small_desks(seed, many, most=6):
    random = Random(seed)
    return PICKED + [small_desk(random, most) for _ in range(many)]


def in_layers(random, many):
    """Tickets that stay in layers of heights, with some through all of them."""
    pairs = []
    while len(pairs) < many:
        low = 6 * random.randint(0, 4)
        pairs.append((random.randint(low, low + 5), random.randint(low, low + 5)))
        if random.random() < 0.1:
            pairs.append((0, 30))
    return pairs[:many]


def balanced(random, many):
    """Pairs of which each comes with its way back, and some that only lead down."""
    pairs = []
    while len(pairs) < many:
        x, y = drawn_pairs(random, 1, 0, 30)[0]
        pairs += [(max(x, y), min(x, y))] if random.random() < 0.2 else [(x, y), (y, x)]
    random.shuffle(pairs)
    return pairs[:many]


def large_desk(random):
    many = random.choice([12, 25, 39, 40])
    kind = random.randint(0, 5)
    if kind == 0:
        return in_layers(random, many)
    if kind == 1:
        return balanced(random, many)
    if kind == 2:
        return [(max(pair), min(pair)) for pair in drawn_pairs(random, many, 0, 30)]
    if kind == 3:
        return [(height, height) for height, _ in drawn_pairs(random, many - 1, 0, 30)] + [(5, 25)]
    low, high = sorted(random.sample(range(31), 2))
    return drawn_pairs(random, many, low, high) if kind == 4 else drawn_pairs(random, many, 0, 30)


def large_desks(seed, many):
    random = Random(seed)
    picked = [[(0, 30)] * 40, [(30, 0)] * 40, [(7, 7)] * 40, [(height % 31, height % 31) for height in range(40)],
              [(0, 30)] * 20 + [(15, 14)] * 20, [(0, 30)] * 20 + [(15, 15)] + [(30, 0)] * 19]
    return picked + [large_desk(random) for _ in range(many)]


def some_heights(random, many):
    return tuple(random.randint(0, 30) for _ in range(many))
