"""Least counts of products over the field of p numbers, p being 2 or 3, and papers that show them."""

from fewtimes.fields import dot, first_filled, grown, is_sum, pair_table, pairs_over, tables_over, without
from fewtimes.schemes import single_one

# Where there are more sets of pairs, a least count is left open.
MOST_SETS = 3000


def many_sets(many, e):
    """How many sets of e unlike things of so many there are, e from 0 to many."""
    count = 1
    for at in range(min(e, many - e)):
        count = count * (many - at) // (at + 1)
    return count


def sets_of(many, e):
    """All rising tuples of e numbers below many, rising."""
    sets = [()]
    for at in range(e):
        # No number is so great that too few are left for the rest, so there are never more tuples than at the end.
        sets = [chosen + (x,) for chosen in sets
                for x in range(chosen[-1] + 1 if chosen else 0, many - e + at + 1)]
    return sets


def pairs_within(space, tables, p):
    """The numbers of those pairs' tables within the space of which none is a sum of those ahead, and their base."""
    chosen, base = [], []
    for at, table in enumerate(tables):
        if is_sum(table, space, p) and not is_sum(table, base, p):
            chosen.append(at)
            base = grown(base, [table], p)
    return (chosen, base)


def shares(tables, chosen, p):
    """For each table how often it has each of the chosen ones, of which none is a sum of the others."""
    many, length = len(chosen), len(tables[0])
    # Behind each chosen table stands a 1 for it alone, which tells how often it was taken away.
    marked = [table + tuple(single_one(many, at)) for at, table in enumerate(chosen)]
    base = grown([], marked, p)
    return [[-x % p for x in without(table + (0,) * many, base, p)[length:]] for table in tables]


def scheme_by(task, pairs, p):
    """The scheme that does the task over p by a product for each of these pairs."""
    left, right, many, terms = task
    outs = shares(tables_over(task, p), [pair_table(pair, p) for pair in pairs], p)
    return (left, right, many, [(l, r, tuple([row[at] for row in outs])) for at, (l, r) in enumerate(pairs)])


def looked_at(task, p):
    """The pairs over p, their tables, and a base of the task's tables."""
    pairs = pairs_over(task[0], task[1], p)
    return (pairs, [pair_table(pair, p) for pair in pairs], grown([], tables_over(task, p), p))


def least_over(task, p):
    """The least count of products over p and a scheme that has it, or a count that it isn't below."""
    pairs, tables, own = looked_at(task, p)
    e = 0
    while many_sets(len(pairs), e) <= MOST_SETS:
        for chosen in sets_of(len(pairs), e):
            space = grown(own, [tables[at] for at in chosen], p)
            numbers, base = pairs_within(space, tables, p)
            if len(base) == len(space):
                return ("least", len(own) + e, scheme_by(task, [pairs[at] for at in numbers], p))
        e += 1
    return ("open", len(own) + e)


def telling_table(space, base, p):
    """A table whose products with the base's rows come to 0, but not with all of the space, which has more rows."""
    rests = [without(row, base, p) for place, row in space]
    rest = [row for row in rests if any(row)][0]
    table = single_one(len(rest), first_filled(rest))
    # From the last on: a row is 0 at the places of those ahead, so what is set there later doesn't matter to it.
    for place, row in reversed(base):
        table[place] = -dot(row, table, p) % p
    return tuple(table)


def least_paper(task, p, number):
    """A paper that no fewer than number products do the task over p; None where fewer do, or it would be too long."""
    pairs, tables, own = looked_at(task, p)
    e = number - 1 - len(own)
    if e < 0:
        return []
    if e > len(pairs) or many_sets(len(pairs), e) > MOST_SETS:
        return None
    paper = []
    for chosen in sets_of(len(pairs), e):
        space = grown(own, [tables[at] for at in chosen], p)
        numbers, base = pairs_within(space, tables, p)
        if len(base) == len(space):
            return None
        paper.append((chosen, telling_table(space, base, p)))
    return paper
