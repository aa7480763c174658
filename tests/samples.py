"""Sets for the tests, and the words of the document as slow plain code."""

from setchains.chains import above, below, chain
from setchains.pairs import loose, paired

# Each function that is handed a set.
FUNCTIONS = (paired, loose, above, below, chain)


def all_sets(many):
    return [[thing for thing in range(many) if bits >> thing & 1] for bits in range(1 << many)]


def few():
    """All sets of few things, each with its number of things."""
    return [(many, members) for many in range(9) for members in all_sets(many)]


def scattered(many, seed):
    """A set without a plain pattern, the same at each run."""
    members = []
    state = seed
    for thing in range(many):
        state = (state * 1103515245 + 12345) % (1 << 31)
        if state >> 16 & 1:
            members.append(thing)
    return members


def many_sets(many):
    half = many // 2
    plain = [
        [],
        list(range(many)),
        [0],
        [many - 1],
        list(range(half)),
        list(range(half, many)),
        list(range(0, many, 2)),
        list(range(1, many, 2)),
        list(range(1, many)),
        list(range(many - 1)),
        list(range(many // 3, 2 * many // 3)),
        [thing for thing in range(many) if thing % 3 == 2],
        [thing for thing in range(many) if thing % 3 != 0],
        [thing for thing in range(many) if thing % 8 > 3],
    ]
    return plain + [scattered(many, seed) for seed in range(1, 21)]


def large():
    """Some sets of many things, each with its number of things."""
    return [(many, members) for many in (17, 24, 31, 39, 40) for members in many_sets(many)]


def pairs_by_the_words(many, members):
    closer = {}
    for thing in range(many):
        if thing in members:
            free = [lesser for lesser in range(thing) if lesser not in members and lesser not in closer]
            if free:
                closer[max(free)] = thing
    return sorted(closer.items())


def loose_by_the_words(many, members):
    bound = [thing for pair in pairs_by_the_words(many, members) for thing in pair]
    held = [thing for thing in range(many) if thing in members and thing not in bound]
    others = [thing for thing in range(many) if thing not in members and thing not in bound]
    return (held, others)
