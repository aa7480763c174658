"""The numbers of the chains, and the addresses of sets."""

from setchains.chains import chain
from setchains.checks import check_many
from setchains.errors import NoNumber


def picks(many, size):
    if size < 0:
        return 0
    ways = 1
    for step in range(size):
        ways = ways * (many - step) // (step + 1)
    return ways


def how_many(many):
    check_many(many)
    return picks(many, many // 2)


def endings(left, lacking, waiting):
    # In how many ways a bottom goes on, with so many things left, members lacking and others waiting to be closed.
    # Of all ways to pick the members those are taken off in which one finds nothing to close. Where members and
    # others are swapped up to the first such one, and with it, they become all ways with waiting + 1 members fewer.
    return picks(left, lacking) - picks(left, lacking - waiting - 1)


def of_lesser_size(many, size):
    # How many chains have a bottom of lesser size: just these have a set of the next lesser size, and one each.
    return picks(many, size - 1)


def number_of(many, bottom):
    number = of_lesser_size(many, len(bottom))
    lacking = len(bottom)
    waiting = 0
    for thing in range(many):
        if thing in bottom:
            # The bottoms that are the same so far, but lack this thing, go ahead.
            number += endings(many - thing - 1, lacking, waiting + 1)
            lacking -= 1
            waiting -= 1
        else:
            waiting += 1
    return number


def size_of_bottom(many, number):
    # All bottoms of these sizes go ahead.
    passed = [size for size in range(many // 2) if of_lesser_size(many, size + 1) <= number]
    return len(passed)


def bottom_of(many, number):
    check_many(many)
    if number < 0 or number >= how_many(many):
        raise NoNumber("no chain has that number")
    lacking = size_of_bottom(many, number)
    ahead = number - of_lesser_size(many, lacking)
    waiting = 0
    bottom = []
    for thing in range(many):
        without = endings(many - thing - 1, lacking, waiting + 1)
        if ahead < without:
            waiting += 1
        else:
            ahead -= without
            bottom.append(thing)
            lacking -= 1
            waiting -= 1
    return bottom


def address(many, members):
    bottom = chain(many, members)[0]
    return (number_of(many, bottom), len(members) - len(bottom))


def set_of(many, number, place):
    steps = chain(many, bottom_of(many, number))
    if place < 0 or place >= len(steps):
        raise NoNumber("the place is not on the chain")
    return steps[place]
