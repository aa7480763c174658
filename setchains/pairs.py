"""The pairs of a set, and the things that are loose."""

from setchains.checks import check_set


def paired(many, members):
    check_set(many, members)
    pairs = []
    waiting = []
    for thing in range(many):
        if thing not in members:
            waiting.append(thing)
        elif len(waiting) > 0:
            pairs.append((waiting.pop(), thing))
    # They were found by rising second things.
    return sorted(pairs)


def loose(many, members):
    bound = {}
    for pair in paired(many, members):
        bound[pair[0]] = True
        bound[pair[1]] = True
    free = [thing for thing in range(many) if thing not in bound]
    held = [thing for thing in free if thing in members]
    others = [thing for thing in free if thing not in members]
    return (held, others)
