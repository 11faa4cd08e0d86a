"""Told people: whether a staff, and nobody else, can bring facts of rivals together by the read rule alone."""

from wallbooks.apart import shortest_way, tasks_of_way
from wallbooks.errors import BadStaff, TooMany
from wallbooks.fences import plain
from wallbooks.names import in_sequence
from wallbooks.runs import barred, has_rivals, is_run, is_staff, meeting, own_facts

MOST_SHARES = 2000


def greatest(book, kind):
    """Return the ascending tuple of the greatest lots without rivals among the clients to which a kind has a right."""
    clients = in_sequence(book.clients, book.looks(kind) + book.writes(kind))
    lots = [()]
    for client in clients:
        lots = lots + [(*lot, client) for lot in lots if not has_rivals(book, (*lot, client))]
    return tuple(sorted([lot for lot in lots if not can_grow(book, lot, clients)]))


def gathered(book, staff):
    """Return ("apart",) if no run of the staff by plain has a meeting, otherwise ("meet", run) with one that has."""
    for share in shares_of(book, staff):
        run = meeting_in(book, staff, share)
        if run is not None:
            return "meet", run
    return ("apart",)


def shows_gathered(book, staff, value):
    """Tell whether any value is a result that is right for gathered of this staff."""
    told = gathered(book, staff)
    if told == ("apart",):
        return value == told
    return isinstance(value, tuple) and len(value) == 2 and value[0] == "meet" and is_meeting(book, staff, value[1])


def can_grow(book, lot, clients):
    """Tell whether one of the clients can be added to a lot without rivals."""
    return any([client not in lot and not has_rivals(book, (*lot, client)) for client in clients])


def shares_of(book, staff):
    """Return all ways to give each person one of the greatest lots of their kind, as tuples of lots.

    Whoever keeps to the read rule holds clients of one such lot only, and may do all that they have a right to in it.
    """
    if not is_staff(book, staff):
        raise BadStaff(staff)
    lots = {kind: greatest(book, kind) for kind in staff}
    many = 1
    for kind in staff:
        many = many * len(lots[kind])
    if many > MOST_SHARES:
        raise TooMany(MOST_SHARES)
    shares = [()]
    for kind in staff:
        shares = [(*share, lot) for share in shares for lot in lots[kind]]
    return shares


def meeting_in(book, staff, share):
    """Return a run with a meeting in which each person holds clients of their lot only, None if there is none."""
    hops = {}
    lookers = {}
    for person, kind in enumerate(staff):
        looks, writes = book.looks(kind), book.writes(kind)
        seen = [client for client in share[person] if client in looks]
        for one in seen:
            for other in seen:
                lookers[(one, other)] = person
            for other in share[person]:
                if other in writes and other != one:
                    hops[(one, other)] = person
    sights = [(person, one, other) for (one, other), person in lookers.items()]
    way = shortest_way(book, hops, sights, own_facts(book))
    if way is None:
        return None
    # Nobody has two tasks on a shortest way: whoever goes a hop of each trail could look at the ends of both.
    return tuple([(person, word, client) for person, deeds in tasks_of_way(hops, way) for word, client in deeds])


def is_meeting(book, staff, value):
    """Tell whether any value is a run of the staff by plain that has a meeting."""
    return (
        is_run(book, staff, value)
        and barred(plain(book), staff, value) is None
        and meeting(book, staff, value) is not None
    )
