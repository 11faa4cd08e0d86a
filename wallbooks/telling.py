"""Rivals told back: which pairs are rivals, from whom the read rule let look at papers and whom it barred."""

from wallbooks.errors import BadCases, BadClients, BadRivalry, NoneFits
from wallbooks.names import are_names, in_sequence, is_lot


def told_back(clients, cases):
    """Return the pairs that are in all rivalries that fit, those in some but not in all, and those in none."""
    need_cases(clients, cases)
    for number in range(len(cases)):
        if [] in clues_of(clients, cases[:number + 1]):
            raise NoneFits(number)
    never = excluded(clients, cases)
    clues = clues_of(clients, cases)
    # Any pairs that are not excluded may be added to a rivalry that fits: only a clue of one pair alone needs its pair.
    always = [pair for pair in pairs_of(clients) if [pair] in clues]
    unsure = [pair for pair in pairs_of(clients) if pair not in never and pair not in always]
    return tuple(sorted(always)), tuple(sorted(unsure)), tuple(sorted(never))


def fits(clients, cases, rivalry):
    """Tell whether all cases are so with just the pairs of a rivalry as rivals."""
    need_cases(clients, cases)
    if not is_rivalry(clients, rivalry):
        raise BadRivalry(rivalry)
    if any([pair in rivalry for pair in excluded(clients, cases)]):
        return False
    return all([holds_one_of(rivalry, clue) for clue in clues_of(clients, cases)])


def need_cases(clients, cases):
    """Raise BadClients, BadCases unless these are clients, and cases of them."""
    if not are_clients(clients):
        raise BadClients(clients)
    if not isinstance(cases, tuple) or len(cases) > 24 or not all([is_case(clients, case) for case in cases]):
        raise BadCases(cases)


def are_clients(value):
    """Tell whether any value is a tuple of two to eight names, none twice."""
    if not isinstance(value, tuple) or not 2 <= len(value) <= 8:
        return False
    return all([isinstance(name, str) for name in value]) and are_names(value)


def is_case(clients, value):
    """Tell whether any value is a case: (lot, client, word)."""
    if not isinstance(value, tuple) or len(value) != 3:
        return False
    lot, client, word = value
    return is_lot(clients, lot) and client in clients and word in ("let", "barred")


def is_rivalry(clients, value):
    """Tell whether any value is an ascending tuple of pairs of the clients."""
    if not isinstance(value, tuple) or not all([pair in pairs_of(clients) for pair in value]):
        return False
    return value == tuple(sorted(set(value)))


def pairs_of(clients):
    """Return all pairs of the clients, one ahead of other in sequence."""
    return [(one, other) for at, one in enumerate(clients) for other in clients[at + 1:]]


def excluded(clients, cases):
    """Return the pairs that are rivals in no rivalry that fits: a lot has no two rivals, nor any of one who was let."""
    found = []
    for lot, client, word in cases:
        found = found + pairs_of(lot)
        if word == "let":
            found = found + pairs_with(clients, lot, client)
    return [pair for pair in pairs_of(clients) if pair in found]


def clues_of(clients, cases):
    """Return for each case in which somebody was barred the pairs one of which at least is of rivals."""
    never = excluded(clients, cases)
    return [
        [pair for pair in pairs_with(clients, lot, client) if pair not in never]
        for lot, client, word in cases
        if word == "barred"
    ]


def holds_one_of(rivalry, clue):
    """Tell whether a rivalry has at least one pair of a clue."""
    return any([pair in rivalry for pair in clue])


def pairs_with(clients, lot, client):
    """Return the pairs of a client with each other one of a lot."""
    return [in_sequence(clients, (held, client)) for held in lot if held != client]
