"""Integers, names and lots: what they are, and how clients are put in sequence."""


def is_integer(value):
    """Tell whether any value is an int that is not a bool."""
    return isinstance(value, int) and not isinstance(value, bool)


def is_name(word):
    """Tell whether a string is a name: 1 to 8 letters a to z."""
    return len(word) <= 8 and word.isascii() and word.isalpha() and word.islower()


def are_names(words):
    """Tell whether all strings of a list are names, none twice."""
    return all([is_name(word) for word in words]) and len(set(words)) == len(words)


def in_sequence(clients, members):
    """Return the tuple of those clients that are among the members, in the sequence of the clients."""
    return tuple([client for client in clients if client in members])


def is_lot(clients, value):
    """Tell whether any value is a tuple of clients, in sequence, none twice."""
    return isinstance(value, tuple) and value == in_sequence(clients, value)
