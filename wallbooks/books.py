"""Books: the clients of a house, who are rivals, and what each kind of people may do."""

from wallbooks.errors import BadBook, BadRight, BadRivals, BadWord, NoClient, NoKind
from wallbooks.names import are_names, in_sequence, is_lot, is_name

LINE_WORDS = {"look": "looks", "write": "writes"}


class Book:
    """A book, read from its text; it never changes."""

    def __init__(self, text):
        if not isinstance(text, str):
            raise BadBook(0)
        lines = text.split("\n")
        clients = read_clients(lines)
        rivals = read_rivals(clients, lines)
        rights = read_kinds(clients, lines, 1 + len(rivals))
        self.text = text
        self.clients = clients
        self.rivals = tuple(sorted(rivals))
        self.kinds = tuple(rights)
        self._rights = rights

    def __len__(self):
        return len(self.clients)

    def __contains__(self, value):
        return value in self.clients

    def __eq__(self, other):
        return isinstance(other, Book) and self.text == other.text

    def are_rivals(self, one, other):
        """Tell whether two clients are rivals; nobody is one's own."""
        self._need_client(one)
        self._need_client(other)
        return (one, other) in self.rivals or (other, one) in self.rivals

    def rivals_of(self, client):
        """Return the lot of a client's rivals."""
        self._need_client(client)
        return tuple([rival for rival in self.clients if self.are_rivals(client, rival)])

    def looks(self, kind):
        """Return the lot of clients at whose papers this kind may look."""
        self._need_kind(kind)
        return self._rights[kind]["look"]

    def writes(self, kind):
        """Return the lot of clients into whose papers this kind may write."""
        self._need_kind(kind)
        return self._rights[kind]["write"]

    def with_rivals(self, one, other):
        """Return the book in which two clients are rivals besides."""
        if self.are_rivals(one, other) or one == other:
            raise BadRivals((one, other))
        lines = self.text.split("\n")
        lines.insert(1 + len(self.rivals), f"rivals {one} {other}")
        return Book("\n".join(lines))

    def without_rivals(self, one, other):
        """Return the book in which two rivals are rivals no more."""
        if not self.are_rivals(one, other):
            raise BadRivals((one, other))
        told = (f"rivals {one} {other}", f"rivals {other} {one}")
        return Book("\n".join([line for line in self.text.split("\n") if line not in told]))

    def with_right(self, kind, word, client):
        """Return the book in which a kind has one right more."""
        lot = self._lot_of_right(kind, word, client)
        if client in lot:
            raise BadRight((kind, word, client))
        return self._with_lot(kind, word, in_sequence(self.clients, (*lot, client)))

    def without_right(self, kind, word, client):
        """Return the book in which a kind has one right less."""
        lot = self._lot_of_right(kind, word, client)
        if client not in lot:
            raise BadRight((kind, word, client))
        return self._with_lot(kind, word, tuple([other for other in lot if other != client]))

    def _need_client(self, value):
        if value not in self.clients:
            raise NoClient(value)

    def _need_kind(self, value):
        if value not in self.kinds:
            raise NoKind(value)

    def _lot_of_right(self, kind, word, client):
        """Return the lot to which a right belongs, whether or not the kind has it."""
        self._need_kind(kind)
        if word not in ("look", "write"):
            raise BadWord(word)
        self._need_client(client)
        return self._rights[kind][word]

    def _with_lot(self, kind, word, lot):
        """Return the book in which one line of a kind tells another lot."""
        lines = self.text.split("\n")
        first = 1 + len(self.rivals) + 3 * self.kinds.index(kind)
        at = first + 1 if word == "look" else first + 2
        lines[at] = " ".join([LINE_WORDS[word], *lot])
        return Book("\n".join(lines))


def read_clients(lines):
    """Return the tuple of clients that the first line tells."""
    names = words_behind(lines, 0, "clients")
    need(2 <= len(names) <= 8 and are_names(names), 0)
    return tuple(names)


def read_rivals(clients, lines):
    """Return the pairs that the lines of rivals tell, each in the sequence of the clients."""
    pairs = []
    at = 1
    while at < len(lines) and lines[at].split(" ")[0] == "rivals":
        words = words_behind(lines, at, "rivals")
        pair = in_sequence(clients, words)
        # Two words that make a pair of two are both clients, and unlike.
        need(len(words) == 2 and len(pair) == 2 and pair not in pairs, at)
        pairs.append(pair)
        at += 1
    return pairs


def read_kinds(clients, lines, start):
    """Return the kinds told from line start on: each one's lots, by "look" and by "write"."""
    rights = {}
    at = start
    # Asked before the first kind, too, so that its line is missed if the text ends here.
    while at < len(lines) or not rights:
        names = words_behind(lines, at, "kind")
        need(len(rights) < 4 and len(names) == 1 and is_name(names[0]) and names[0] not in rights, at)
        looks = read_lot(clients, lines, at + 1, "looks")
        writes = read_lot(clients, lines, at + 2, "writes")
        rights[names[0]] = {"look": looks, "write": writes}
        at += 3
    return rights


def read_lot(clients, lines, at, first):
    """Return the lot that a line tells behind its first word."""
    lot = tuple(words_behind(lines, at, first))
    need(is_lot(clients, lot), at)
    return lot


def words_behind(lines, at, first):
    """Return the words of a line behind its first word; BadBook if it is missing or begins otherwise."""
    need(at < len(lines), at)
    words = lines[at].split(" ")
    need(words[0] == first, at)
    return words[1:]


def need(holds, at):
    """Raise BadBook with the number of the line at the index unless the condition holds."""
    if not holds:
        raise BadBook(at + 1)
