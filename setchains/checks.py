"""What is refused before anything is worked out."""

from setchains.errors import NoMany, NoSet

MOST_THINGS = 40


def check_many(many):
    # The number is not told in the error's words: Python refuses to write out a very long one.
    if many < 0 or many > MOST_THINGS:
        raise NoMany("the number of things is not from nought to 40")


def check_set(many, members):
    check_many(many)
    least = 0
    for member in members:
        if member < least or member >= many:
            raise NoSet("the list is no rising list of things, each once")
        least = member + 1


def check_family(many, family):
    check_many(many)
    met = {}
    for members in family:
        check_set(many, members)
        if tuple(members) in met:
            raise NoSet("the family has the same set twice")
        met[tuple(members)] = True
