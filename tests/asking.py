"""How the tests ask: what [2] promises of every answer is looked at with each question."""

import copy


def lists_in(thing):
    """All lists that a thing is or holds."""
    found = [thing] if isinstance(thing, list) else []
    if isinstance(thing, (list, tuple)):
        for part in thing:
            found += lists_in(part)
    return found


def spoilt(thing):
    """Changes every list that a thing is or holds."""
    for row in lists_in(thing):
        row.append("spoilt")
        row.reverse()


def asked(case, function, *handed):
    """The answer to a question, asked thrice, with all that [2] says of it held against it."""
    kept = copy.deepcopy(handed)
    first = function(*handed)
    case.assertEqual(kept, handed, "what was handed in was changed")
    second = function(*handed)
    case.assertEqual(first, second, "the same question was told otherwise")
    one, other = lists_in(first), lists_in(second)
    case.assertEqual(len(one), len({id(row) for row in one}), "one list is told at two places")
    for row in one:
        case.assertFalse(any(row is held for held in lists_in(handed)), "a list handed in is told")
        case.assertFalse(any(row is held for held in other), "a list told before is told again")
    answer = copy.deepcopy(first)
    spoilt(first)
    spoilt(second)
    case.assertEqual(kept, handed, "a change of the answer changes what was handed in")
    third = function(*handed)
    case.assertEqual(answer, third, "a change of an answer changes another one")
    return third


def refused(case, error, function, *handed):
    """The refusal of a question, asked twice: of that very class, with nothing that was handed in changed."""
    kept, told = copy.deepcopy(handed), []
    for _ in range(2):
        with case.assertRaises(error) as caught:
            function(*handed)
        case.assertIs(error, type(caught.exception))
        case.assertEqual(kept, handed, "what was handed in was changed")
        told.append(caught.exception)
    case.assertEqual(vars(told[0]), vars(told[1]), "the same question was refused otherwise")
    return told[1]


def numbers(many, seed, bound):
    """So many numbers from -bound to bound, the same ones each time."""
    row, state = [], seed
    for _ in range(many):
        state = (state * 6364136223846793005 + 1442695040888963407) % 2 ** 64
        row.append((state >> 20) % (2 * bound + 1) - bound)
    return row


def scheme_of(left, right, many, count, seed, bound):
    """A scheme of so many products, of numbers from -bound to bound."""
    parts = [tuple(numbers(length, seed + 3 * at + side, bound))
             for at in range(count) for side, length in enumerate((left, right, many))]
    return (left, right, many, [tuple(parts[at:at + 3]) for at in range(0, len(parts), 3)])
