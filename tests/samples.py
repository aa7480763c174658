"""Sets for the tests, and the words of the document as slow plain code."""

import functools
import itertools

from setchains.chains import above, below, chain
from setchains.families import clash, share
from setchains.notes import shown
from setchains.numbers import address
from setchains.pairs import loose, paired

# Each function that is handed a set, and each that is handed a family.
SET_FUNCTIONS = (paired, loose, above, below, chain, address, shown)
FAMILY_FUNCTIONS = (clash, share)


def all_sets(many):
    return [[thing for thing in range(many) if bits >> thing & 1] for bits in range(1 << many)]


def few():
    """All sets of few things, each with its number of things."""
    return [(many, members) for many in range(9) for members in all_sets(many)]


def scattered(many, seed):
    """A set without a plain pattern, the same at each run."""
    members = []
    state = seed
    for thing in range(many):
        state = (state * 1103515245 + 12345) % (1 << 31)
        if state >> 16 & 1:
            members.append(thing)
    return members


def many_sets(many):
    half = many // 2
    plain = [
        [],
        list(range(many)),
        [0],
        [many - 1],
        list(range(half)),
        list(range(half, many)),
        list(range(0, many, 2)),
        list(range(1, many, 2)),
        list(range(1, many)),
        list(range(many - 1)),
        list(range(many // 3, 2 * many // 3)),
        [thing for thing in range(many) if thing % 3 == 2],
        [thing for thing in range(many) if thing % 3 != 0],
        [thing for thing in range(many) if thing % 8 > 3],
    ]
    return plain + [scattered(many, seed) for seed in range(1, 21)]


def large():
    """Some sets of many things, each with its number of things."""
    return [(many, members) for many in (17, 24, 31, 39, 40) for members in many_sets(many)]


def shuffled(things, seed):
    """The same things in another order, the same at each run."""
    left = list(things)
    mixed = []
    state = seed
    while left:
        state = (state * 1103515245 + 12345) % (1 << 31)
        mixed.append(left.pop((state >> 16) % len(left)))
    return mixed


def sets_of_size(many, size):
    return [list(members) for members in itertools.combinations(range(many), size)]


def distinct(family):
    return [members for count, members in enumerate(family) if members not in family[:count]]


def small_families():
    """All families of nought to 3 things, each in some orders, with their number of things."""
    found = []
    for many in range(4):
        sets = all_sets(many)
        for size in range(len(sets) + 1):
            for picked in itertools.combinations(sets, size):
                orders = [picked, picked[::-1], shuffled(picked, 3), shuffled(picked, 8)]
                found = found + [(many, [list(members) for members in order]) for order in orders]
    return found


def mixed_families():
    """Some families of up to 40 things, with and without a clash, each with its number of things."""
    found = [(many, shuffled(sets_of_size(many, 2), many)) for many in (2, 5, 9, 17, 40)]
    for many in (4, 5, 6, 7, 8):
        for seed in range(1, 31):
            found.append((many, shuffled(all_sets(many), seed)[:seed]))
    for many in (17, 24, 31, 39, 40):
        found.append((many, distinct(many_sets(many))))
        found.append((many, shuffled(distinct(many_sets(many)), 5)))
        found.append((many, [scattered(many, seed) for seed in range(1, 21)]))
        found.append((many, chain(many, scattered(many, 4))[::-1]))
        found.append((many, [[thing] for thing in range(many)]))
    return found


def pairs_by_the_words(many, members):
    closer = {}
    for thing in range(many):
        if thing in members:
            free = [lesser for lesser in range(thing) if lesser not in members and lesser not in closer]
            if free:
                closer[max(free)] = thing
    return sorted(closer.items())


def loose_by_the_words(many, members):
    bound = [thing for pair in pairs_by_the_words(many, members) for thing in pair]
    held = [thing for thing in range(many) if thing in members and thing not in bound]
    others = [thing for thing in range(many) if thing not in members and thing not in bound]
    return (held, others)


def lies_within(members, others):
    return all(member in others for member in members)


def clash_by_the_words(family):
    counts = range(len(family))
    found = [(a, b) for a in counts for b in counts if a != b and lies_within(family[a], family[b])]
    return min(found, default=None)


def order_by_the_words(bottom, other):
    """Below nought where the first bottom goes ahead of the other one, above nought where it goes behind."""
    if len(bottom) != len(other):
        return len(bottom) - len(other)
    in_one = [thing for thing in sorted(bottom + other) if (thing in bottom) != (thing in other)]
    if not in_one:
        return 0
    return 1 if in_one[0] in bottom else -1


def bottoms_by_the_words(many):
    bottoms = [members for members in all_sets(many) if not loose_by_the_words(many, members)[0]]
    return sorted(bottoms, key=functools.cmp_to_key(order_by_the_words))


def address_by_the_words(many, members, bottoms):
    held = loose_by_the_words(many, members)[0]
    bottom = [member for member in members if member not in held]
    return (bottoms.index(bottom), len(held))
