"""The chain on which a set lies, and the sets next to it there."""

from setchains.pairs import loose


def above(many, members):
    others = loose(many, members)[1]
    if len(others) == 0:
        return None
    return sorted(members + [others[0]])


def below(many, members):
    held = loose(many, members)[0]
    if len(held) == 0:
        return None
    return [member for member in members if member != held[-1]]


def chain(many, members):
    # All sets of a chain have the same pairs, so the same things are loose in each,
    # and each holds the least few of these: none at the bottom, all at the top.
    free = loose(many, members)
    climbed = free[0] + free[1]
    kept = [member for member in members if member not in free[0]]
    return [sorted(kept + climbed[:size]) for size in range(len(climbed) + 1)]
