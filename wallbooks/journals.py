"""Journals: houses as texts, written and read back."""

from wallbooks.books import Book
from wallbooks.errors import BadBook, BadJournal, WallError
from wallbooks.fences import Fence, all_pairs
from wallbooks.houses import House

# What follows the first word of each line: what is told of a house comes behind the steps.
FORMS = {
    "hire": ("word",),
    "look": ("person", "word"),
    "write": ("person", "word"),
    "leave": ("person",),
    "undo": (),
    "redo": (),
    "looked": ("person",),
    "holds": ("person",),
    "knows": ("person",),
    "papers": ("word",),
    "can": ("person",),
    "risk": (),
    "people": (),
}

STEP_WORDS = ("hire", "look", "write", "leave")


def journal(house):
    """Return the text of a house: its book, the pairs of its fence, and the steps that stand."""
    pairs = [f"pair {one} {other}" for one, other in house.fence.pairs]
    steps = [" ".join([str(word) for word in step]) for step in house.steps]
    return "\n".join([house.fence.book.text, *pairs, "house", *steps])


def read_journal(text):
    """Return the house that a text tells; BadJournal with the number of the first line that is wrong."""
    if not isinstance(text, str):
        raise BadJournal(0)
    lines = text.split("\n")
    if "house" not in lines:
        raise BadJournal(len(lines) + 1)
    end = lines.index("house")
    start = end_of_book(lines)
    book = read_book(lines[:start])
    house = House(Fence(book, read_pairs(book, lines, start, end)))
    for at in range(end + 1, len(lines)):
        read_step(house, lines, at)
    return house


def end_of_book(lines):
    """Return the index of the first line that is of a pair, or the line house."""
    at = 0
    while lines[at] != "house" and lines[at].split(" ")[0] != "pair":
        at += 1
    return at


def read_book(lines):
    """Return the book that some lines tell."""
    try:
        return Book("\n".join(lines))
    except BadBook as wrong:
        raise BadJournal(wrong.value) from None


def read_pairs(book, lines, start, end):
    """Return the pairs that the lines from start up to end tell, which ascend."""
    pairs = []
    latest = ()
    known = all_pairs(book)
    for at in range(start, end):
        words = lines[at].split(" ")
        pair = tuple(words[1:])
        if words[0] != "pair" or pair not in known or pair <= latest:
            raise BadJournal(at + 1)
        pairs.append(pair)
        latest = pair
    return tuple(pairs)


def read_step(house, lines, at):
    """Let the step be done that the line at an index tells."""
    words = read_line(lines[at])
    if words is None or words[0] not in STEP_WORDS:
        raise BadJournal(at + 1)
    try:
        do_step(house, words)
    except WallError:
        raise BadJournal(at + 1) from None


def do_step(house, step):
    """Let one step be done; return what the house returns."""
    word = step[0]
    if word == "hire":
        return house.hire(step[1])
    if word == "look":
        return house.look(step[1], step[2])
    if word == "write":
        return house.write(step[1], step[2])
    return house.leave(step[1])


def read_line(line):
    """Return the words of a line of one of the forms, persons as integers, None if it is of no form."""
    words = line.split(" ")
    form = FORMS.get(words[0], None)
    if form is None or len(words) != len(form) + 1 or "\n" in line:
        return None
    told = [words[0]]
    for word, meaning in zip(words[1:], form):
        if word == "" or (meaning == "person" and not is_number(word)):
            return None
        told.append(int(word) if meaning == "person" else word)
    return tuple(told)


def is_number(word):
    """Tell whether a string is an integer as Python writes it."""
    figures = word.removeprefix("-")
    return figures.isascii() and figures.isdigit() and str(int(word)) == word
