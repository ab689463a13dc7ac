"""Moves of a scheme's products that keep its task: tidying, and flips of two products."""

from fewtimes.errors import NoFlip
from fewtimes.schemes import has_noughts


def begins_below(part):
    """Whether the first number of a part that isn't 0 is below 0."""
    some = [x for x in part if x != 0]
    return len(some) > 0 and some[0] < 0


def negated(part):
    """A part turned in sign."""
    return tuple([-x for x in part])


def added(one, other):
    """Two parts together."""
    return tuple([x + y for x, y in zip(one, other)])


def signed(product):
    """A product with its signs turned so that l and r begin above 0."""
    l, r, o = product
    if begins_below(l):
        l, o = negated(l), negated(o)
    if begins_below(r):
        r, o = negated(r), negated(o)
    return (l, r, o)


def first_alike(products):
    """The first two products, as pairs of their numbers stand, that are alike in two parts; None where none are."""
    firsts, pairs = {}, []
    for at, (l, r, o) in enumerate(products):
        for key in [(0, r, o), (1, l, o), (2, l, r)]:
            if key in firsts:
                pairs.append((firsts[key], at))
            else:
                firsts[key] = at
    return min(pairs, default=None)


def put_together(one, other):
    """One product of two that are alike in two parts."""
    (l, r, o), (x, y, z) = one, other
    if l == x and r == y:
        return (l, r, added(o, z))
    if l == x and o == z:
        return (l, added(r, y), o)
    return (added(l, x), r, o)


def one_fewer(products):
    """The products, whose signs are turned, tidied to one product fewer; None where they are tidy."""
    empty = [at for at, product in enumerate(products) if has_noughts(product)]
    if empty:
        return products[:empty[0]] + products[empty[0] + 1:]
    pair = first_alike(products)
    if pair is None:
        return None
    r, s = pair
    made = list(products)
    # Two parts that begin above 0 do so together, so no sign is to be turned once more.
    made[r] = put_together(products[r], products[s])
    del made[s]
    return made


def tidied(scheme):
    """The scheme with signs turned, products of noughts left out, and those alike in two parts put together."""
    left, right, many, products = scheme
    tidy = [signed(product) for product in products]
    fewer = one_fewer(tidy)
    while fewer is not None:
        tidy = fewer
        fewer = one_fewer(tidy)
    return (left, right, many, tidy)


def flips(scheme):
    """All flips of two products with one and the same part, rising."""
    # By their parts, since of all two products of a long scheme only few have one in common.
    alike = {}
    for at, product in enumerate(scheme[3]):
        for side, part in enumerate(product):
            alike.setdefault((side, part), []).append(at)
    return sorted([(r, s, side) for (side, part), numbers in alike.items() for r in numbers for s in numbers if r != s])


def is_flip(products, flip):
    """Whether there is such a flip of two products."""
    r, s, side = flip
    many = len(products)
    if not (0 <= r < many and 0 <= s < many and 0 <= side <= 2):
        return False
    return r != s and products[r][side] == products[s][side]


def flipped_pair(one, other, side):
    """The two products that stand for two with the same part at this side."""
    (a, b, c), (x, y, z) = one, other
    if side == 0:
        return ((a, added(b, y), c), (x, y, added(z, negated(c))))
    if side == 1:
        return ((added(a, x), b, c), (x, y, added(z, negated(c))))
    return ((added(a, x), b, c), (x, added(y, negated(b)), z))


def flipped(scheme, flip):
    """The scheme with two products flipped."""
    left, right, many, products = scheme
    if not is_flip(products, flip):
        raise NoFlip("the scheme has no such flip")
    r, s, side = flip
    made = list(products)
    made[r], made[s] = flipped_pair(products[r], products[s], side)
    return (left, right, many, made)
