"""Falling tuples of numbers, each number from a low to a high of its own: counted and numbered.

The lows never rise from place to place, and the highs fall. The numbers may be great, so nothing
is counted one by one. Of tuples of one length the one whose first number is less is the earlier
one; of the same, whose second number is less, and so on.
"""

from math import comb


def rising_many(low, high, many):
    """How many tuples of so many numbers from low to high never fall."""
    if high < low:
        return 0
    return comb(high - low + many, many)


def falling_many(lows, highs):
    """A list: for each length, from 0, how many falling tuples go so far."""
    counts = [1]
    for end in range(len(highs)):
        # Behind each falling part a part that never falls is put, whatever stands where they
        # meet: with signs in turn, all go but those that fall to the end. In a part that never
        # falls the first low and the last high say all.
        total = 0
        for start in range(end + 1):
            many = counts[start] * rising_many(lows[start], highs[end], end - start + 1)
            total = many - total
        counts.append(total)
    return counts


def lowered(highs, top):
    """The highs of falling tuples whose first number is at most top."""
    return [min(high, top - place) for place, high in enumerate(highs)]


def many_up_to(lows, highs, top):
    """How many falling tuples of full length there are whose first number is at most top."""
    return falling_many(lows, lowered(highs, top))[-1]


def nth_falling(lows, highs, number):
    """The falling tuple of full length with this number, from 0; there must be one."""
    found = []
    # What is left is always less than the tuples that go on behind the numbers found so far, so
    # each new number falls by itself.
    left = number
    for place in range(len(highs)):
        first = first_above(lows[place:], highs[place:], left)
        left = left - many_up_to(lows[place:], highs[place:], first - 1)
        found.append(first)
    return tuple(found)


def first_above(lows, highs, number):
    """The least first number up to which there are more falling tuples than this number."""
    low = lows[0]
    high = highs[0]
    while low < high:
        middle = (low + high) // 2
        if many_up_to(lows, highs, middle) > number:
            high = middle
        else:
            low = middle + 1
    return low


def rank_falling(lows, highs, numbers):
    """The number of this falling tuple of full length: how many are earlier."""
    return sum([many_up_to(lows[place:], highs[place:], number - 1) for place, number in enumerate(numbers)])
