"""Programs out of schemes, the rooms that they take, and the order of products that takes the fewest."""

from fewtimes.running import run_program
from fewtimes.schemes import filled, has_noughts


def taken(held):
    """The least room that is empty, which is held from then on."""
    room = 0
    while room in held:
        room += 1
    held[room] = True
    return room


def parts_of(part):
    """A part of a product as the parts of a left or right step."""
    return [(x, at) for at, x in filled(part)]


def times_steps(l, r, held):
    """The steps that multiply a product's two sums, and the room that holds the product behind them."""
    first = taken(held)
    second = taken(held)
    room = taken(held)
    steps = [("left", first, parts_of(l)), ("right", second, parts_of(r)), ("times", room, first, second),
             ("empty", first), ("empty", second)]
    del held[first]
    del held[second]
    return (steps, room)


def sum_steps(o, room, rooms, held):
    """The steps that put a product to the told numbers' rooms, and empty its own one."""
    steps = []
    for k, c in filled(o):
        if k in rooms:
            steps.append(("add", rooms[k], c, room))
        else:
            rooms[k] = taken(held)
            steps.append(("put", rooms[k], c, room))
    del held[room]
    return steps + [("empty", room)]


def tell_steps(whole, rooms, held):
    """The steps that tell those numbers of which the whole is there."""
    steps = []
    for k in whole:
        room = rooms.pop(k)
        del held[room]
        steps.append(("tell", k, room))
    return steps


def program_of(scheme, order):
    """The program that does the scheme's products in this order."""
    products = [scheme[3][number] for number in order if not has_noughts(scheme[3][number])]
    last = {k: at for at, (l, r, o) in enumerate(products) for k, c in filled(o)}
    program, held, rooms = [], {}, {}
    for at, (l, r, o) in enumerate(products):
        steps, room = times_steps(l, r, held)
        program += steps + sum_steps(o, room, rooms, held)
        program += tell_steps([k for k in sorted(rooms) if last[k] == at], rooms, held)
    return program


def room_for(scheme, order):
    """How many rooms the program of the scheme in this order takes."""
    left, right, many, products = scheme
    # The rooms hang on the steps alone, so any rows will do.
    return run_program(program_of(scheme, order), [0] * left, [0] * right, many)[3]


def ones_in(bits):
    """How many bits of a number from 0 are set."""
    many = 0
    while bits > 0:
        many += bits & 1
        bits = bits >> 1
    return many


def told_bits(product):
    """The told numbers that a product has, as bits; none where it is passed over."""
    if has_noughts(product):
        return 0
    return sum([1 << k for k, c in filled(product[2])])


def is_done(done, at):
    """Whether the product with this number is among those whose bits are in done."""
    return (done >> at) & 1 == 1


def united(outs, done, wanted):
    """The told numbers that any product has which is done, or isn't, as is wanted; as bits."""
    bits = 0
    for at, out in enumerate(outs):
        if is_done(done, at) == wanted:
            bits = bits | out
    return bits


def rooms_taken(outs, done, at):
    """The most rooms held while the product is done behind those whose bits are in done."""
    if outs[at] == 0:
        return 0
    begun = united(outs, done, True)
    open_ones = ones_in(begun & united(outs, done, False))
    new_ones = ones_in(begun | outs[at]) - ones_in(begun)
    # Beside the told numbers that aren't whole yet: left, right and product; later the product and the new numbers.
    return open_ones + max(3, 1 + new_ones)


def choices(outs, done, least):
    """For each product that isn't done yet the pair (rooms, its number), rooms being the fewest that go on with it."""
    return [(max(rooms_taken(outs, done, at), least[done + (1 << at)]), at)
            for at in range(len(outs)) if not is_done(done, at)]


def best_order(scheme):
    """The fewest rooms that an order of the products takes, and the first order that takes no more."""
    outs = [told_bits(product) for product in scheme[3]]
    every = (1 << len(outs)) - 1
    # The fewest rooms for the rest behind any set of products: these hang on the set, not on its order.
    least = {every: 0}
    for done in range(every - 1, -1, -1):
        least[done] = min(choices(outs, done, least))[0]
    done, order = 0, []
    while done < every:
        at = min([number for rooms, number in choices(outs, done, least) if rooms <= least[0]])
        order.append(at)
        done += 1 << at
    return (least[0], order)
