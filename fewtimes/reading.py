"""Programs read by their steps alone: which task they do for all rows."""

from fewtimes.errors import BadStep
from fewtimes.running import can_be_done, rooms_read
from fewtimes.schemes import task_by


def is_fit(step, held):
    """Whether each room that a step reads holds the kind of sum that it is for."""
    kinds = [held[room][0] for room in rooms_read(step)]
    if step[0] == "times":
        return kinds == ["left", "right"]
    # A sum of left or of right numbers may be thrown away by empty, else it is for times alone.
    return step[0] == "empty" or all([kind == "products" for kind in kinds])


def row_of(parts, length):
    """How often each number of a row of this length is in a sum of parts."""
    row = [0] * length
    for number, i in parts:
        row[i] += number
    return tuple(row)


def multiple(number, sums):
    """A sum of products, so many times."""
    return {at: number * c for at, c in sums.items()}


def both(one, other):
    """Two sums of products together."""
    made = dict(one)
    for at, c in other.items():
        made[at] = made.get(at, 0) + c
    return made


def read_step(step, held, told, factors, lengths):
    """Reads a step: a room holds its kind and its sum, one of products by their numbers among the factors."""
    left, right, many = lengths
    word, room = step[0], step[1]
    if word == "left":
        held[room] = (word, row_of(step[2], left))
    elif word == "right":
        held[room] = (word, row_of(step[2], right))
    elif word == "times":
        factors.append((held[step[2]][1], held[step[3]][1]))
        held[room] = ("products", {len(factors) - 1: 1})
    elif word == "put":
        held[room] = ("products", multiple(step[2], held[step[3]][1]))
    elif word == "add":
        held[room] = ("products", both(held[room][1], multiple(step[2], held[step[3]][1])))
    elif word == "empty":
        del held[room]
    elif word == "tell":
        told[step[1]] = held.pop(step[2])[1]


def read_program(program, left, right, many):
    """The task that the program does for all rows of these lengths."""
    lengths = (left, right, many)
    held, told, factors = {}, {}, []
    for at, step in enumerate(program):
        if not can_be_done(step, held, told, lengths) or not is_fit(step, held):
            raise BadStep(at)
        read_step(step, held, told, factors, lengths)
    # What the steps multiply and tell is a scheme, whose task is known to be reckoned.
    sums = [told.get(k, {}) for k in range(many)]
    products = [(l, r, tuple([row.get(at, 0) for row in sums])) for at, (l, r) in enumerate(factors)]
    return task_by((left, right, many, products))
