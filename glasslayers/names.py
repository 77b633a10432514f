"""Names: the single words that ways are made of."""

NAME_SIGNS = "abcdefghijklmnopqrstuvwxyz0123456789"
LONGEST_NAME = 12


def is_name(thing):
    # A list or tuple has a length and members too, so the kind is asked first.
    if not isinstance(thing, str):
        return False
    if not 1 <= len(thing) <= LONGEST_NAME:
        return False
    return all([sign in NAME_SIGNS for sign in thing])
