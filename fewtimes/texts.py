"""Schemes written as texts, and read again."""

from fewtimes.errors import BadRow
from fewtimes.schemes import LONGEST, MOST_PRODUCTS, filled

FIGURES = "0123456789"
GREATEST_FACTOR = 1000


def number_text(number):
    """A number of any size as it is written."""
    rest, words = abs(number), []
    # Python refuses to write a number of some thousand figures at once, so it is written by fifties.
    while rest >= 10 ** 50:
        rest, last = divmod(rest, 10 ** 50)
        words.append(str(last).zfill(50))
    words.append(str(rest))
    return ("-" if number < 0 else "") + "".join(words[::-1])


def sum_text(part):
    """A part of a product as it is written."""
    return " ".join([f"{number_text(c)}:{at}" for at, c in filled(part)]) if any(part) else "-"


def scheme_text(scheme):
    """The scheme's text."""
    left, right, many, products = scheme
    rows = [f"scheme {left} {right} {many}"]
    rows += [f"{sum_text(l)} * {sum_text(r)} > {sum_text(o)}" for l, r, o in products]
    return "\n".join(rows)


def number_from(word, most):
    """The number from 0 that a word writes by at most so many figures; None where it doesn't."""
    if not 1 <= len(word) <= most or not all([sign in FIGURES for sign in word]):
        return None
    if word[0] == "0" and len(word) > 1:
        return None
    return int(word)


def factor_from(word):
    """The number that a word writes as one of a sum; None where it doesn't."""
    is_below = word.startswith("-")
    size = number_from(word[1:] if is_below else word, len(str(GREATEST_FACTOR)))
    if size is None or not 1 <= size <= GREATEST_FACTOR:
        return None
    return -size if is_below else size


def sum_from(text, length):
    """The part of a product, of this length, that a text writes; None where it doesn't."""
    part, ahead = [0] * length, -1
    if text == "-":
        return tuple(part)
    for word in text.split(" "):
        first, colon, second = word.partition(":")
        c, at = factor_from(first), number_from(second, len(str(LONGEST)))
        if c is None or at is None or not ahead < at < length:
            return None
        part[at] = c
        ahead = at
    return tuple(part)


def product_from(row, lengths):
    """The product that a row writes, its parts of these lengths; None where it doesn't."""
    first, star, rest = row.partition(" * ")
    second, sign, third = rest.partition(" > ")
    parts = [sum_from(text, length) for text, length in zip([first, second, third], lengths)]
    return None if None in parts else tuple(parts)


def lengths_from(row):
    """The lengths that the first row of a text writes; None where it doesn't."""
    words = row.split(" ")
    if len(words) != 4 or words[0] != "scheme":
        return None
    lengths = [number_from(word, len(str(LONGEST))) for word in words[1:]]
    if not all([length is not None and 1 <= length <= LONGEST for length in lengths]):
        return None
    return tuple(lengths)


def scheme_from(text):
    """The scheme that a text writes."""
    rows = text.split("\n")
    lengths = lengths_from(rows[0])
    if lengths is None:
        raise BadRow(0)
    products = []
    for at, row in enumerate(rows[1:], start=1):
        product = product_from(row, lengths)
        if product is None or at > MOST_PRODUCTS:
            raise BadRow(at)
        products.append(product)
    return lengths + (products,)
