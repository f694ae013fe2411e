"""What the tests hold the program against: the steps gone through one by one, and sets told in full.

A bag is a list of towns, each its number of rows; rules are pairs (kind, least).
"""

import functools
import itertools

from smalltowns.counties import County
from smalltowns.scripts import Script
from smalltowns.steps import Step

# All numbers of a Script are multiplied by this where great numbers are tried.
GREAT = 10 ** 37


def left_by(rules, bag):
    """The towns that are left when these steps are done one after another."""
    left = list(bag)
    for kind, least in rules:
        if kind == "town":
            left = [town for town in left if town >= least]
        elif sum(left) < least:
            left = []
    return left


def rules_of(script):
    """The pairs (kind, least) of the steps of a Script."""
    return [(step.kind, step.least) for step in script.steps]


def script_by(rules):
    """The Script of these pairs (kind, least)."""
    return Script([Step(kind, least) for kind, least in rules])


def grown(script):
    """The Script with all its numbers multiplied."""
    return script_by([(kind, least * GREAT) for kind, least in rules_of(script)])


@functools.lru_cache(maxsize=None)
def bags(rows, size):
    """All bags of at most so many rows with towns up to this size."""
    if size == 0:
        return ((),)
    return tuple([bag + (size,) * many for many in range(rows // size + 1)
                  for bag in bags(rows - many * size, size - 1)])


def county_of(bag):
    """The County of these towns."""
    return County([(town, 1) for town in bag])


def looks(rules, some):
    """The sizes that are shown of each of these bags."""
    return tuple([frozenset(left_by(rules, bag)) for bag in some])


def inside(one, other):
    """Whether nothing is shown in these looks that is not shown in the other ones."""
    return all(here <= there for here, there in zip(one, other))


def form_of_set(numbers):
    """The FORM of a set of numbers, told number by number."""
    runs = []
    for number in sorted(numbers):
        if runs and runs[-1][1] == number - 1:
            runs[-1] = (runs[-1][0], number)
        else:
            runs.append((number, number))
    return tuple(runs)


def set_of(form):
    """The numbers of a FORM, from the greatest down."""
    return tuple(sorted([number for first, last in form for number in range(first, last + 1)], reverse=True))


def sets_to(most):
    """All sets of numbers from 1 to most but the empty one, each from the greatest down."""
    numbers = range(most, 0, -1)
    return [own for many in range(1, most + 1) for own in itertools.combinations(numbers, many)]


def forms_to(most):
    """The FORMs of all these sets."""
    return [form_of_set(own) for own in sets_to(most)]


def set_within(one, other):
    """Whether the Script of the one set is within that of the other: number by number."""
    return len(one) >= len(other) and all(own >= its for own, its in zip(one, other))


def rules_to(most, many):
    """All rows of at most so many steps with numbers from 1 to most."""
    steps = [(kind, least) for kind in ("town", "county") for least in range(1, most + 1)]
    return [rules for length in range(many + 1) for rules in itertools.product(steps, repeat=length)]


def floor_by_steps(rules, size):
    """What is asked of all towns from this size on, by what each step asks of whom."""
    least = max([1] + [number for kind, number in rules if kind == "town"])
    if size > least:
        return 0
    asked, reach = [least], 1
    for kind, number in rules:
        if kind == "town":
            reach = max(reach, number)
        elif size <= reach:
            asked.append(number)
    # What is asked of the towns from a greater size on is asked of these, too.
    return max(asked)


def least_by_steps(rules):
    """The least size that is shown."""
    return max([1] + [number for kind, number in rules if kind == "town"])
