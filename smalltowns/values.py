"""What several files need of plain values: numbers, their digits, pairs and tuples."""

LIMB = 10 ** 64


def is_number(thing):
    """Whether this is an int that is not a bool."""
    return isinstance(thing, int) and not isinstance(thing, bool)


def is_pair(thing):
    """Whether this is a tuple of two numbers from 1."""
    if not isinstance(thing, tuple) or len(thing) != 2:
        return False
    return all([is_number(part) and part >= 1 for part in thing])


def as_tuples(value):
    """This value with tuples for its lists, at any depth."""
    if isinstance(value, (list, tuple)):
        return tuple([as_tuples(part) for part in value])
    return value


def digits_of(number):
    """The decimal digits of a number from 0."""
    # str and int refuse numbers of more than 4300 digits; sums and products of
    # what was returned may well have more, so they are told in smaller parts.
    rest = number
    parts = []
    while rest >= LIMB:
        rest, low = divmod(rest, LIMB)
        parts.append(f"{low:064d}")
    parts.append(str(rest))
    return "".join(parts[::-1])


def number_in(word):
    """The number from 0 whose decimal digits these are, None if it is that of none."""
    # isdigit alone also takes digits of other alphabets.
    if not (word.isascii() and word.isdigit()):
        return None
    if word[0] == "0" and word != "0":
        return None
    number = 0
    for digit in word:
        number = number * 10 + int(digit)
    return number
