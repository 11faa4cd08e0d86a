"""Whether rivals' facts can ever come to one person, however many people there are: a table, or a way round."""

from wallbooks.names import is_lot
from wallbooks.runs import barred, first_meeting, is_run, is_staff, own_facts


def apart(fence):
    """Return ("apart", table) if no run by the fence has a meeting, otherwise ("round", staff, run), a shortest one."""
    return apart_from(fence, own_facts(fence.book))


def shows_apart(fence, value):
    """Tell whether any value is a result that is right for apart of this fence."""
    return shows_apart_from(fence, own_facts(fence.book), value)


def apart_from(fence, borne):
    """Return what apart tells of a fence, where papers bear these facts at first."""
    hops = hops_of(fence.book, fence.pairs)
    way = shortest_way(fence.book, hops, sights_of(fence.book), borne)
    if way is None:
        return "apart", least_table(fence.book, hops, borne)
    staff, run = run_of_way(hops, way)
    return "round", staff, run


def shows_apart_from(fence, borne, value):
    """Tell whether any value is a result that is right for a fence, where papers bear these facts at first."""
    if not isinstance(value, tuple):
        return False
    if len(value) == 2 and value[0] == "apart":
        return is_closed_table(fence, borne, value[1])
    return len(value) == 3 and value[0] == "round" and is_way_round(fence, borne, value[1], value[2])


def keeps_apart(book, pairs):
    """Tell whether the fence of some pairs of a book keeps rivals apart."""
    return shortest_way(book, hops_of(book, pairs), sights_of(book), own_facts(book)) is None


def hops_of(book, pairs):
    """Return the hops among some pairs of a book, each with the first kind that can make it."""
    hops = {}
    for kind in book.kinds:
        looks, writes = book.looks(kind), book.writes(kind)
        for one, other in pairs:
            if one in looks and other in writes and (one, other) not in hops:
                hops[(one, other)] = kind
    return hops


def sights_of(book):
    """Return all (kind, one, other) such that the kind may look at these two clients, perhaps the same one."""
    return [
        (kind, one, other)
        for kind in book.kinds
        for one in book.looks(kind)
        for other in book.looks(kind)
        if not book.are_rivals(one, other)
    ]


def trails_of(book, hops, borne):
    """Return for each client a shortest trail of its facts to each client into whose papers they can come."""
    return {
        fact: trails_from([client for client in book.clients if fact in borne[client]], hops)
        for fact in book.clients
    }


def trails_from(starts, hops):
    """Return a shortest trail of clients, from hop to hop, from the starts to each client that can be reached."""
    trails = {start: (start,) for start in starts}
    latest = starts
    while latest:
        reached = []
        for one, other in hops:
            if one in latest and other not in trails:
                trails[other] = trails[one] + (other,)
                reached.append(other)
        latest = reached
    return trails


def shortest_way(book, hops, sights, borne):
    """Return (worker, trail, other trail) with as few deeds as can be, None if there is no way round.

    Facts of two rivals come to one person along two trails; whoever goes a hop looks at one client and writes for the
    next one, and one person looks at the ends of both trails. A run with fewer deeds than the best of these is none:
    nobody can go hops of both trails and not know facts of both rivals, and who goes two of one trail can leave out
    what lies between them.
    """
    trails = trails_of(book, hops, borne)
    best = None
    # Each two sights are told both ways round, so that each two rivals need not be.
    for worker, end, other_end in sights:
        for one, other in book.rivals:
            if end in trails[one] and other_end in trails[other]:
                way = (worker, trails[one][end], trails[other][other_end])
                if best is None or deeds_of_way(way) < deeds_of_way(best):
                    best = way
    return best


def deeds_of_way(way):
    """Return how many deeds a way round has: two for each hop, one for each end that is looked at."""
    _, trail, other = way
    ends = 1 if trail[-1] == other[-1] else 2
    return 2 * (len(trail) - 1) + 2 * (len(other) - 1) + ends


def tasks_of_way(hops, way):
    """Return (worker, deeds) for each hop of a way round, and for who looks at the ends; a deed is (word, client)."""
    worker, trail, other = way
    steps = list(zip(trail, trail[1:])) + list(zip(other, other[1:]))
    tasks = [(hops[step], (("look", step[0]), ("write", step[1]))) for step in steps]
    ends = (trail[-1],) if trail[-1] == other[-1] else (trail[-1], other[-1])
    tasks.append((worker, tuple([("look", end) for end in ends])))
    return tasks


def run_of_way(hops, way):
    """Return (staff, run) of a way round where the workers are kinds: another person for each task."""
    tasks = tasks_of_way(hops, way)
    staff = tuple([kind for kind, _ in tasks])
    run = [(person, word, client) for person, (_, deeds) in enumerate(tasks) for word, client in deeds]
    return staff, tuple(run)


def least_table(book, hops, borne):
    """Return the table in whose lots there are just the clients whose facts can come into these papers."""
    trails = trails_of(book, hops, borne)
    return tuple([tuple([fact for fact in book.clients if client in trails[fact]]) for client in book.clients])


def is_closed_table(fence, borne, value):
    """Tell whether any value is a table that is closed for the fence, and has all that papers bear at first."""
    book = fence.book
    if not isinstance(value, tuple) or len(value) != len(book):
        return False
    if not all([is_lot(book.clients, lot) for lot in value]):
        return False
    lots = dict(zip(book.clients, value))
    return (
        all([passes_on(borne[client], lots[client]) for client in book.clients])
        and all([passes_on(lots[one], lots[other]) for one, other in hops_of(book, fence.pairs)])
        and not any([meet(book, lots[one], lots[other]) for _, one, other in sights_of(book)])
    )


def passes_on(lot, other):
    """Tell whether all of one lot are in another one."""
    return all([client in other for client in lot])


def meet(book, lot, other):
    """Tell whether one of a lot is a rival of one of another lot."""
    return any([book.are_rivals(one, rival) for one in lot for rival in other])


def is_way_round(fence, borne, staff, run):
    """Tell whether any two values are a staff and a run that may be told of the fence."""
    book = fence.book
    if not is_staff(book, staff) or not is_run(book, staff, run):
        return False
    busy = [deed[0] for deed in run]
    if not all([person in busy for person in range(len(staff))]):
        return False
    if barred(fence, staff, run) is not None or first_meeting(book, staff, run, borne) != len(run) - 1:
        return False
    return len(run) == deeds_of_way(shortest_way(book, hops_of(book, fence.pairs), sights_of(book), borne))
