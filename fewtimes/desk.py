"""A desk: rows of deeds, which make schemes by names, and of asks, which are answered."""

from fewtimes.combining import within
from fewtimes.errors import BadRow
from fewtimes.great import figures_of, long_product, times_for
from fewtimes.known import by_pairs, plain, seven
from fewtimes.least import least_over
from fewtimes.moves import tidied
from fewtimes.schemes import LONGEST, MOST_PRODUCTS, does, fails_at, sums_in, times_in
from fewtimes.search import walked
from fewtimes.tasks import line_task, ring_task, table_task
from fewtimes.texts import number_from, number_text, scheme_text
from fewtimes.turning import mirrored, turned

LETTERS = "abcdefghijklmnopqrstuvwxyz"
LONGEST_NAME = 8
MOST_FIGURES = 9
MOST_FIGURES_OF_FACTORS = 40
MOST_TERMS = 1000
MOST_BY_PAIRS = 25
MOST_FLIPS = 60
TURNS = {"+": 1, "-": -1}

# The longest rows of a task whose least count is asked for, and over each p the greatest product of their lengths.
LONGEST_OVER = 6
GREATEST_OVER = {2: 12, 3: 9}

GREATEST_BASE = 1000
LONGEST_FACTOR = 60
MOST_TIMES = 20000


def is_name(word):
    """Whether a scheme can be called so."""
    return 1 <= len(word) <= LONGEST_NAME and all([letter in LETTERS for letter in word])


def numbers_from(words, most):
    """The numbers that the words write by at most so many figures; None where one doesn't."""
    numbers = [number_from(word, most) for word in words]
    return None if None in numbers else numbers


def sizes_from(words, many):
    """So many numbers from 1 that the words write; None where they don't."""
    sizes = numbers_from(words, MOST_FIGURES)
    if len(words) != many or sizes is None or 0 in sizes:
        return None
    return sizes


def is_within_bounds(lengths, terms):
    """Whether a task may have these lengths and so many terms."""
    return max(lengths) <= LONGEST and terms <= MOST_TERMS


def table_from(words):
    """The task of tables of these sizes; None where there is none."""
    sizes = sizes_from(words, 3)
    if sizes is None:
        return None
    n, m, p = sizes
    return table_task(n, m, p) if is_within_bounds([n * m, m * p, n * p], n * m * p) else None


def line_from(words):
    """The task of a line of these lengths; None where there is none."""
    sizes = sizes_from(words, 2)
    if sizes is None:
        return None
    n, m = sizes
    return line_task(n, m) if is_within_bounds([n + m - 1], n * m) else None


def ring_from(words):
    """The task of a ring of this length and turn; None where there is none."""
    sizes = sizes_from(words[:1], 1)
    if sizes is None or len(words) != 2 or words[1] not in TURNS:
        return None
    n = sizes[0]
    return ring_task(n, TURNS[words[1]]) if is_within_bounds([n], n * n) else None


TASKS = {"table": table_from, "line": line_from, "ring": ring_from}


def task_from(words):
    """The task that the words write; None where they don't, or it is beyond the bounds."""
    if not words or words[0] not in TASKS:
        return None
    reader = TASKS[words[0]]
    return reader(words[1:])


def only_one(words, schemes):
    """The scheme whose name is the only word; None where there is none."""
    return schemes.get(words[0]) if len(words) == 1 else None


def make_plain(words, schemes):
    """The plain scheme of a task; None where there is none."""
    task = task_from(words)
    if task is None:
        return None
    made = plain(task)
    return made if times_in(made) <= MOST_PRODUCTS else None


def make_pairs(words, schemes):
    """A line by pairs; None where there is none."""
    sizes = sizes_from(words, 1)
    return by_pairs(sizes[0]) if sizes is not None and sizes[0] <= MOST_BY_PAIRS else None


def make_seven(words, schemes):
    """Two by two tables by seven products; None where more is written."""
    return None if words else seven()


def make_within(words, schemes):
    """One scheme within another; None where one isn't there, or what is made is beyond the bounds."""
    if not all([word in schemes for word in words]) or len(words) != 2:
        return None
    one, other = schemes[words[0]], schemes[words[1]]
    lengths = [x * y for x, y in zip(one[:3], other[:3])]
    # Looked at ahead, since what is beyond the bounds may be far too great to be made.
    if max(lengths) > LONGEST or times_in(one) * times_in(other) > MOST_PRODUCTS:
        return None
    return within(one, other)


def changed(words, schemes, change):
    """The scheme whose name is the only word, changed; None where there is none."""
    scheme = only_one(words, schemes)
    return None if scheme is None else change(scheme)


def make_turned(words, schemes):
    """A scheme turned; None where it isn't there."""
    return changed(words, schemes, turned)


def make_mirrored(words, schemes):
    """A scheme mirrored; None where it isn't there."""
    return changed(words, schemes, mirrored)


def make_tidied(words, schemes):
    """A scheme tidied; None where it isn't there."""
    return changed(words, schemes, tidied)


def make_walked(words, schemes):
    """The best scheme of a walk; None where the first one isn't there, or the numbers aren't so written."""
    scheme, numbers = only_one(words[:1], schemes), numbers_from(words[1:], MOST_FIGURES)
    if scheme is None or numbers is None or len(numbers) > MOST_FLIPS:
        return None
    return walked(scheme, numbers)[1]


DEEDS = {"plain": make_plain, "pairs": make_pairs, "seven": make_seven, "within": make_within, "turned": make_turned,
         "mirrored": make_mirrored, "tidied": make_tidied, "walked": make_walked}


def take_one(words, schemes):
    """What is asked of a scheme alone; None where it can't be."""
    scheme = only_one(words, schemes)
    return None if scheme is None else (scheme,)


def take_task(words, schemes):
    """What is asked of a scheme and a task; None where it can't be."""
    scheme, task = only_one(words[:1], schemes), task_from(words[1:])
    return None if scheme is None or task is None else (scheme, task)


def take_least(words, schemes):
    """What is asked of a field and a task; None where it can't be."""
    sizes, task = sizes_from(words[:1], 1), task_from(words[1:])
    if sizes is None or sizes[0] not in GREATEST_OVER or task is None:
        return None
    p, left, right = sizes[0], task[0], task[1]
    if max(left, right) > LONGEST_OVER or left * right > GREATEST_OVER[p]:
        return None
    return (task, p)


def does_line(scheme, n):
    """Whether the scheme does line_task(n, n)."""
    # The lengths first: n may be far too great for its task to be made.
    return scheme[:3] == (n, n, 2 * n - 1) and does(scheme, line_task(n, n))


def take_long(words, schemes):
    """What is asked of a scheme, a base and two factors; None where it can't be."""
    scheme, sizes = only_one(words[:1], schemes), sizes_from(words[1:3], 2)
    factors = numbers_from(words[3:], MOST_FIGURES_OF_FACTORS)
    if scheme is None or sizes is None or factors is None or len(factors) != 2:
        return None
    n, base = sizes
    if n < 2 or not 2 <= base <= GREATEST_BASE or not does_line(scheme, n):
        return None
    length = max([len(figures_of(factor, base)) for factor in factors])
    if length > LONGEST_FACTOR or times_for(times_in(scheme), n, length) > MOST_TIMES:
        return None
    return (scheme, n, factors[0], factors[1], base)


TAKERS = {"times": take_one, "sums": take_one, "task": take_task, "least": take_least, "long": take_long,
          "show": take_one}


def tell_times(things):
    """How many products a scheme has."""
    return str(times_in(things[0]))


def tell_sums(things):
    """How many sums a scheme takes."""
    return str(sums_in(things[0]))


def tell_task(things):
    """Whether a scheme does a task, and where it fails."""
    scheme, task = things
    if scheme[:3] != task[:3]:
        return "no"
    rows = fails_at(scheme, task)
    return "yes" if rows is None else f"no {rows[0].index(1)} {rows[1].index(1)}"


def tell_least(things):
    """The least count of products of a task over a field, or that it is open."""
    task, p = things
    told = least_over(task, p)
    return f"{told[0]} {told[1]}"


def tell_long(things):
    """The product of two numbers, and how many multiplyings it took."""
    scheme, n, one, other, base = things
    product, times = long_product(scheme, n, one, other, base)
    return f"{number_text(product)} {times}"


def tell_show(things):
    """A scheme's text on one row."""
    return scheme_text(things[0]).replace("\n", " / ")


TELLERS = {"times": tell_times, "sums": tell_sums, "task": tell_task, "least": tell_least, "long": tell_long,
           "show": tell_show}


def made_by(words, schemes):
    """The scheme that the words of a deed make; None where they can't stand there."""
    if len(words) < 2 or not is_name(words[1]) or words[1] in schemes:
        return None
    make = DEEDS[words[0]]
    return make(words[2:], schemes)


def asked_by(words, schemes):
    """What the words of an ask ask of; None where they can't stand there."""
    if words[0] not in TAKERS:
        return None
    take = TAKERS[words[0]]
    return take(words[1:], schemes)


def answer(word, things):
    """The answer to an ask."""
    tell = TELLERS[word]
    return tell(things)


def run(text):
    """The answers to all asks of a desk's text."""
    schemes, asks = {}, []
    for at, row in enumerate(text.split("\n") if text else []):
        words = row.split(" ")
        is_deed = words[0] in DEEDS
        found = made_by(words, schemes) if is_deed else asked_by(words, schemes)
        if found is None:
            raise BadRow(at)
        if is_deed:
            schemes[words[1]] = found
        else:
            asks.append((words[0], found))
    # Only now: a row further down may be refused, and then nothing is answered.
    return [answer(word, things) for word, things in asks]
