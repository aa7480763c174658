"""Sets written as texts."""

from setchains.checks import MOST_THINGS, check_set
from setchains.errors import NoNote


def shown(many, members):
    check_set(many, members)
    return "".join([")" if thing in members else "(" for thing in range(many)])


def read(text):
    if len(text) > MOST_THINGS:
        raise NoNote("the text has more than 40 signs")
    members = []
    for thing, sign in enumerate(text):
        if sign == ")":
            members.append(thing)
        elif sign != "(":
            raise NoNote("the text has another sign than the two brackets")
    return (len(text), members)
