"""A desk: a house that is led, and asked, by lines of text."""

from wallbooks.errors import BadLine
from wallbooks.journals import STEP_WORDS, do_step, read_journal, read_line


class Desk:
    """The house of a journal, and what is said of it."""

    def __init__(self, text):
        self.house = read_journal(text)

    def say(self, line):
        """Do, or answer, what one line tells; return the answer."""
        words = read_line(line) if isinstance(line, str) else None
        if words is None:
            raise BadLine(line)
        if words[0] in STEP_WORDS:
            number = do_step(self.house, words)
            return "ok" if number is None else str(number)
        if len(words) == 1:
            return self._answer(words[0])
        return self._answer_about(words[0], words[1])

    def _answer(self, word):
        """Answer a line of one word alone."""
        if word == "risk":
            return self.house.risk()[0]
        if word == "people":
            return joined(" ", self.house.staff)
        if word == "undo":
            self.house.undo()
        else:
            self.house.redo()
        return "ok"

    def _answer_about(self, word, subject):
        """Answer a line that asks about a person, or about a client's papers."""
        if word == "looked":
            return joined(" ", self.house.looked(subject))
        if word == "holds":
            return joined(" ", self.house.holds(subject))
        if word == "knows":
            return joined(" ", self.house.knows(subject))
        if word == "papers":
            return joined(" ", self.house.papers(subject))
        return joined(", ", [f"{told} {client}" for told, client in self.house.can(subject)])


def joined(sign, words):
    """Return the words with a sign between each two, a dot for none."""
    return sign.join(words) if len(words) > 0 else "."
