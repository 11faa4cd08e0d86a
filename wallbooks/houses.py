"""Houses: people who come, and what they do by a fence, step by step."""

from wallbooks.apart import apart_from, shows_apart_from
from wallbooks.errors import (
    Fenced, Full, Left, NoClient, NoKind, NoPerson, NoRight, NothingToRedo, NothingToUndo, NoTrial, Rival,
)
from wallbooks.names import is_integer
from wallbooks.runs import Standing, first_meeting, is_person, own_facts

MOST_PEOPLE = 8
MOST_DEEDS = 40


class House:
    """People who come, and what they do by a fence; all else is told from the steps that stand."""

    def __init__(self, fence):
        self.fence = fence
        self.staff = ()
        self.run = ()
        self.done = 0
        self.steps = ()
        self.undone = ()
        self.block = None

    def __len__(self):
        return len(self.staff)

    def __getitem__(self, person):
        self._need_person(person)
        return self.staff[person]

    def __iter__(self):
        raise TypeError("a house is not gone over")

    def __eq__(self, other):
        return isinstance(other, House) and self.fence == other.fence and self.steps == other.steps

    def hire(self, kind):
        """Let a person of a kind come; return the person's number."""
        if kind not in self.fence.book.kinds:
            raise NoKind(kind)
        if len(self.staff) >= MOST_PEOPLE:
            raise Full(MOST_PEOPLE)
        self._step("hire", kind)
        return len(self.staff) - 1

    def look(self, person, client):
        """Let a person look at a client's papers."""
        self._need_right(person, "look", client)
        self._need_no_rival(person, client)
        self._need_room()
        self._step("look", person, client)

    def write(self, person, client):
        """Let a person write into a client's papers."""
        self._need_right(person, "write", client)
        self._need_no_rival(person, client)
        self._need_no_fence(person, client)
        self._need_room()
        self._step("write", person, client)

    def leave(self, person):
        """Let a person leave, who does nothing any more."""
        self._need_present(person)
        self._step("leave", person)

    def looked(self, person):
        """Return the lot of clients at whose papers a person has looked."""
        self._need_person(person)
        return self._standing().seen[person]

    def holds(self, person):
        """Return the lot of clients that a person holds."""
        self._need_person(person)
        return self._standing().held[person]

    def knows(self, person):
        """Return the lot of clients whose facts a person knows."""
        self._need_person(person)
        return self._standing().known[person]

    def papers(self, client):
        """Return the lot of clients whose facts a client's papers bear."""
        self._need_client(client)
        return self._standing().borne[client]

    def can(self, person):
        """Return the ascending tuple of the (word, client) that a person could do now."""
        self._need_person(person)
        if self._has_left(person) or len(self.run) >= MOST_DEEDS:
            return ()
        book, standing = self.fence.book, self._standing()
        kind = self.staff[person]
        rights = [("look", client) for client in book.looks(kind)] + [("write", client) for client in book.writes(kind)]
        could = [(word, client) for word, client in rights if standing.lets(self.fence, (person, word, client))]
        return tuple(sorted(could))

    def met(self):
        """Return the number of the first deed that was a meeting, None if there was none."""
        book = self.fence.book
        return first_meeting(book, self.staff, self.run, own_facts(book))

    def risk(self):
        """Return what people who come anew could bring about by the fence, from the papers as they are now."""
        number = self.met()
        if number is not None:
            return "met", number
        return apart_from(self.fence, self._standing().borne)

    def shows_risk(self, value):
        """Tell whether any value is a result that is right for risk now."""
        number = self.met()
        if number is None:
            return shows_apart_from(self.fence, self._standing().borne, value)
        if not isinstance(value, tuple) or len(value) != 2 or value[0] != "met":
            return False
        return is_integer(value[1]) and value[1] == number

    def undo(self):
        """Take back the last step that stands."""
        if self.steps == ():
            raise NothingToUndo(None)
        self._let_stand(self.steps[:-1], self.undone + self.steps[-1:])

    def redo(self):
        """Do the step again that was taken back last."""
        if self.undone == ():
            raise NothingToRedo(None)
        self._let_stand(self.steps + self.undone[-1:], self.undone[:-1])

    def trial(self):
        """Return a block for with, behind which the house is as it was ahead of it, unless it is kept."""
        return Trial(self)

    def keep(self):
        """Let the innermost block be kept, if no error leaves it."""
        block = self.block
        if block is None:
            raise NoTrial(None)
        block.kept = True

    def tried(self, look, *, keep=False):
        """Call a function with the house in a block, kept if keep is True; return what the function returns."""
        with self.trial() as held:
            if keep is True:
                held.keep()
            return look(held)

    def copy(self):
        """Return an independent house alike in all things, itself outside of all blocks."""
        twin = House(self.fence)
        twin._let_stand(self.steps, self.undone)
        return twin

    def _step(self, *step):
        """Let one more step stand, with which none can be done again that was taken back."""
        self._let_stand(self.steps + (step,), ())

    def _let_stand(self, steps, undone):
        """Let just these steps stand, and these, the last one first, be what can be done again."""
        self.steps = steps
        self.undone = undone
        self.done = len(steps)
        self.staff = tuple([step[1] for step in steps if step[0] == "hire"])
        self.run = tuple([(step[1], step[0], step[2]) for step in steps if step[0] in ("look", "write")])

    def _standing(self):
        """Return how the people stand behind the run."""
        book = self.fence.book
        standing = Standing(book, self.staff, own_facts(book))
        for deed in self.run:
            standing.do(deed)
        return standing

    def _has_left(self, person):
        return ("leave", person) in self.steps

    def _need_person(self, value):
        if not is_person(self.staff, value):
            raise NoPerson(value)

    def _need_present(self, person):
        self._need_person(person)
        if self._has_left(person):
            raise Left(person)

    def _need_client(self, value):
        if value not in self.fence.book:
            raise NoClient(value)

    def _need_right(self, person, word, client):
        """Raise an error unless somebody who is there has a right to a deed."""
        self._need_present(person)
        self._need_client(client)
        book, kind = self.fence.book, self.staff[person]
        lot = book.looks(kind) if word == "look" else book.writes(kind)
        if client not in lot:
            raise NoRight((person, word, client))

    def _need_no_rival(self, person, client):
        for held in self._standing().held[person]:
            if self.fence.book.are_rivals(held, client):
                raise Rival((client, held))

    def _need_no_fence(self, person, client):
        for looked in self._standing().seen[person]:
            if looked != client and (looked, client) not in self.fence:
                raise Fenced((looked, client))

    def _need_room(self):
        if len(self.run) >= MOST_DEEDS:
            raise Full(MOST_DEEDS)


class Trial:
    """A block of a house: behind it the house is as it was ahead of it, unless it was kept and no error left it."""

    def __init__(self, house):
        self.house = house
        self.kept = None
        self.outer = None
        self.steps = ()
        self.undone = ()
        self.done = 0
        self.staff = ()
        self.run = ()

    def __enter__(self):
        house = self.house
        self.outer = house.block
        self.steps = house.steps
        self.undone = house.undone
        self.done = house.done
        self.staff = house.staff
        self.run = house.run
        house.block = self
        return house

    def __exit__(self, kind, value, trace):
        house = self.house
        house.block = self.outer
        if self.kept is None or kind is not None:
            house.steps = self.steps
            house.undone = self.undone
            house.done = self.done
            house.staff = self.staff
            house.run = self.run
