"""Runs: what the people of a staff do, deed by deed, and what they and the papers know behind it."""

from wallbooks.errors import BadRun, BadStaff
from wallbooks.names import in_sequence, is_integer


class Standing:
    """How a staff stands: what each person has seen, holds and knows, and whose facts each client's papers bear.

    Nobody has done anything at first, but papers may bear others' facts already.
    """

    def __init__(self, book, staff, borne):
        self.book = book
        self.seen = [()] * len(staff)
        self.held = [()] * len(staff)
        self.known = [()] * len(staff)
        self.borne = dict(borne)

    def do(self, deed):
        """Let one deed be done."""
        person, word, client = deed
        self.held[person] = self._joined(self.held[person], (client,))
        if word == "look":
            self.seen[person] = self._joined(self.seen[person], (client,))
            self.known[person] = self._joined(self.known[person], self.borne[client])
        else:
            self.borne[client] = self._joined(self.borne[client], self.known[person])

    def lets(self, fence, deed):
        """Tell whether the read rule and the fence let one deed be done now."""
        person, word, client = deed
        if any([self.book.are_rivals(held, client) for held in self.held[person]]):
            return False
        return word == "look" or fence.lets(self.seen[person], client)

    def _joined(self, lot, other):
        return in_sequence(self.book.clients, (*lot, *other))


def stand(book, staff, run):
    """Return what each person has looked at, holds and knows, and what each client's papers bear, behind a run."""
    need_run(book, staff, run)
    standing = Standing(book, staff, own_facts(book))
    for deed in run:
        standing.do(deed)
    people = tuple(zip(standing.seen, standing.held, standing.known))
    return people, tuple([standing.borne[client] for client in book.clients])


def meeting(book, staff, run):
    """Return the number of the first deed behind which its person knows facts of two rivals, None if there is none."""
    need_run(book, staff, run)
    return first_meeting(book, staff, run, own_facts(book))


def barred(fence, staff, run):
    """Return the number of the first deed at which a run does not go by a fence, None if it goes by it."""
    need_run(fence.book, staff, run)
    standing = Standing(fence.book, staff, own_facts(fence.book))
    for at, deed in enumerate(run):
        if not standing.lets(fence, deed):
            return at
        standing.do(deed)
    return None


def barred_by_facts(book, staff, run):
    """Return the number of the first deed at which a run does not go by facts, None if it goes by them."""
    need_run(book, staff, run)
    standing = Standing(book, staff, own_facts(book))
    for at, deed in enumerate(run):
        person, _, client = deed
        standing.do(deed)
        # Only these two can have got facts by the deed.
        if has_rivals(book, standing.known[person]) or has_rivals(book, standing.borne[client]):
            return at
    return None


def own_facts(book):
    """Return what each client's papers bear at first: its own facts alone."""
    return {client: (client,) for client in book.clients}


def first_meeting(book, staff, run, borne):
    """Return the number of the first deed that is a meeting, from papers that bear these facts; None if none is."""
    standing = Standing(book, staff, borne)
    for at, deed in enumerate(run):
        standing.do(deed)
        if has_rivals(book, standing.known[deed[0]]):
            return at
    return None


def has_rivals(book, lot):
    """Tell whether two of a lot are rivals."""
    return any([book.are_rivals(one, other) for one in lot for other in lot])


def need_run(book, staff, run):
    """Raise BadStaff unless the staff is one of the book, BadRun unless the run is one of the staff."""
    if not is_staff(book, staff):
        raise BadStaff(staff)
    if not is_run(book, staff, run):
        raise BadRun(run)


def is_staff(book, value):
    """Tell whether any value is a tuple of one to eight kinds of the book."""
    return isinstance(value, tuple) and 1 <= len(value) <= 8 and all([kind in book.kinds for kind in value])


def is_run(book, staff, value):
    """Tell whether any value is a tuple of none to forty deeds of the staff."""
    return isinstance(value, tuple) and len(value) <= 40 and all([is_deed(book, staff, deed) for deed in value])


def is_deed(book, staff, value):
    """Tell whether any value is a deed that somebody of the staff has the right to."""
    if not isinstance(value, tuple) or len(value) != 3:
        return False
    person, word, client = value
    if not is_person(staff, person):
        return False
    if word == "look":
        return client in book.looks(staff[person])
    return word == "write" and client in book.writes(staff[person])


def is_person(staff, value):
    """Tell whether any value is the number of a person of the staff."""
    return is_integer(value) and 0 <= value < len(staff)
