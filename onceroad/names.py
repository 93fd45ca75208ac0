"""Whole numbers and names, told apart from any other thing."""

LONGEST_NAME = 6


def is_whole(thing):
    # True and False are ints to Python, but no whole numbers here.
    return isinstance(thing, int) and not isinstance(thing, bool)


def is_within(thing, low, high):
    return is_whole(thing) and low <= thing <= high


def is_name(thing):
    if not isinstance(thing, str) or not 1 <= len(thing) <= LONGEST_NAME:
        return False
    return all(["a" <= sign <= "z" for sign in thing])
