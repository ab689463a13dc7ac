"""Walks over schemes by flips, tidied each time, and the fewest products that a few flips lead to."""

from fewtimes.moves import flipped, flips, tidied
from fewtimes.schemes import times_in


def walked(scheme, numbers):
    """The counts of products along the walk that the numbers choose, and the first scheme met with the fewest."""
    at = tidied(scheme)
    counts, best = [times_in(at)], at
    for number in numbers:
        found = flips(at)
        if not found:
            break
        at = tidied(flipped(at, found[number % len(found)]))
        counts.append(times_in(at))
        if times_in(at) < times_in(best):
            best = at
    return (counts, best)


def next_ones(ends, met):
    """What one flip more leads to: pairs (scheme, path) in their paths' order, of schemes that weren't met yet."""
    found = []
    for scheme, path in ends:
        for flip in flips(scheme):
            made = tidied(flipped(scheme, flip))
            products = tuple(made[3])
            if products not in met:
                met[products] = True
                found.append((made, path + [flip]))
    return found


def fewest_within(scheme, deep):
    """The fewest products that so many flips lead to at most, and the first of the shortest paths there."""
    first = tidied(scheme)
    ends, met = [(first, [])], {tuple(first[3]): True}
    fewest, best = times_in(first), []
    for turn in range(deep):
        # A scheme is met by the first of its shortest paths, so what is met first goes before all met later.
        ends = next_ones(ends, met)
        for made, path in ends:
            if times_in(made) < fewest:
                fewest, best = times_in(made), path
    return (fewest, best)
