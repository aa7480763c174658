"""Families of sets: the clash, the share, and the middle family."""

from setchains.checks import check_family, check_many
from setchains.errors import NoMany
from setchains.numbers import bottom_of, how_many, picks, set_of

MOST_FOR_MIDDLE = 8


def as_bits(members):
    return sum([1 << member for member in members])


def larger_than(size, family):
    return [count for count, members in enumerate(family) if len(members) > size]


def clash(many, family):
    check_family(many, family)
    # As bits, two sets are held against one another in one step, however many members they have.
    bits = [as_bits(members) for members in family]
    # No two sets are the same, so only a larger one can hold a set.
    larger = [larger_than(size, family) for size in range(many + 1)]
    for first, members in enumerate(family):
        for second in larger[len(members)]:
            if bits[first] & bits[second] == bits[first]:
                return (first, second)
    return None


def greatest_divisor(one, other):
    while other > 0:
        rest = one % other
        one = other
        other = rest
    return one


def share(many, family):
    check_family(many, family)
    upper = 0
    lower = 1
    for members in family:
        parts = picks(many, len(members))
        upper = upper * parts + lower
        lower = lower * parts
        # Put in lowest terms at each step, so that the numbers stay small in a long family.
        divisor = greatest_divisor(upper, lower)
        upper = upper // divisor
        lower = lower // divisor
    return (upper, lower)


def middle(many):
    check_many(many)
    if many > MOST_FOR_MIDDLE:
        raise NoMany("the middle family is told of nought to 8 things")
    family = []
    for number in range(how_many(many)):
        place = many // 2 - len(bottom_of(many, number))
        family.append(set_of(many, number, place))
    return family
