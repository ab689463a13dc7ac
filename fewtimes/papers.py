"""Papers that no fewer products do a task over the field of p numbers, p being 2 or 3, looked at set by set."""

from fewtimes.fields import dot, grown, is_sum, pair_table, pairs_over, tables_over
from fewtimes.least import many_sets


def is_set(chosen, e, many):
    """Whether it is a rising tuple of e numbers from 0, all below many."""
    if len(chosen) != e or not all([0 <= x < many for x in chosen]):
        return False
    return all([x < y for x, y in zip(chosen, chosen[1:])])


def has_all_sets(paper, e, many):
    """Whether the paper's sets are all those of e numbers below many, each once."""
    sets = [chosen for chosen, table in paper]
    # As many unlike sets as there are at all: none is missing.
    if len(sets) != many_sets(many, e) or len(set(sets)) != len(sets):
        return False
    return all([is_set(chosen, e, many) for chosen in sets])


def is_table(table, length, p):
    """Whether it has so many numbers, all from 0 to p - 1."""
    return len(table) == length and all([0 <= x < p for x in table])


def tells_apart(table, base, tables, p):
    """Whether the table's products with each pair's table that is a sum of the base's rows are 0, but not with all."""
    missed = [other for other in tables if dot(table, other, p) != 0]
    if any([is_sum(other, base, p) for other in missed]):
        return False
    return any([dot(table, row, p) != 0 for place, row in base])


def shows_least(task, p, number, paper):
    """Whether the paper shows that no fewer than number products do the task over p."""
    tables = [pair_table(pair, p) for pair in pairs_over(task[0], task[1], p)]
    own = grown([], tables_over(task, p), p)
    e = number - 1 - len(own)
    if e < 0:
        return len(paper) == 0
    if e > len(tables) or not has_all_sets(paper, e, len(tables)):
        return False
    for chosen, table in paper:
        base = grown(own, [tables[at] for at in chosen], p)
        if not is_table(table, task[0] * task[1], p) or not tells_apart(table, base, tables, p):
            return False
    return True
