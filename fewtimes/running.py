"""Programs of steps over rooms, run with two rows."""

from fewtimes.errors import BadStep


def rooms_read(step):
    """The rooms that a step reads, in its order."""
    word = step[0]
    if word == "times":
        return [step[2], step[3]]
    if word == "put":
        return [step[3]]
    if word == "add":
        return [step[1], step[3]]
    if word == "empty":
        return [step[1]]
    if word == "tell":
        return [step[2]]
    return []


def can_be_done(step, held, told, lengths):
    """Whether a step can be done with these rooms held and these numbers told, lengths being those of the rows."""
    left, right, many = lengths
    word = step[0]
    if not all([room in held for room in rooms_read(step)]):
        return False
    if word == "left":
        return all([0 <= i < left for number, i in step[2]])
    if word == "right":
        return all([0 <= j < right for number, j in step[2]])
    if word == "tell":
        return 0 <= step[1] < many and step[1] not in told
    return True


def sum_of(parts, row):
    """The sum of each part's number times the row's number at its place."""
    return sum([number * row[i] for number, i in parts])


def do_step(step, held, told, one, other):
    """Does a step: changes what the rooms hold, and what is told."""
    word, room = step[0], step[1]
    if word == "left":
        held[room] = sum_of(step[2], one)
    elif word == "right":
        held[room] = sum_of(step[2], other)
    elif word == "times":
        held[room] = held[step[2]] * held[step[3]]
    elif word == "put":
        held[room] = step[2] * held[step[3]]
    elif word == "add":
        held[room] = held[room] + step[2] * held[step[3]]
    elif word == "empty":
        del held[room]
    elif word == "tell":
        told[step[1]] = held.pop(step[2])


def sums_of(step):
    """How many additions a step takes."""
    if step[0] == "left" or step[0] == "right":
        return len(step[2]) - 1
    return 1 if step[0] == "add" else 0


def run_program(program, one, other, many):
    """The told row, how many multiplyings and sums it took, and the most rooms held behind any step."""
    lengths = (len(one), len(other), many)
    held, told, most = {}, {}, 0
    for at, step in enumerate(program):
        if not can_be_done(step, held, told, lengths):
            raise BadStep(at)
        do_step(step, held, told, one, other)
        most = max(most, len(held))
    times = len([step for step in program if step[0] == "times"])
    return ([told.get(k, 0) for k in range(many)], times, sum([sums_of(step) for step in program]), most)
