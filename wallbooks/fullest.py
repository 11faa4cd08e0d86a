"""The fullest fences: those that keep rivals apart, and with any further pair do not."""

from wallbooks.apart import apart, keeps_apart
from wallbooks.errors import NotApart
from wallbooks.fences import Fence, plain


def addable(fence):
    """Return the ascending tuple of the pairs with each of which, opened by itself, the fence still keeps apart."""
    need_apart(fence)
    return tuple([
        pair
        for pair in plain(fence.book).pairs
        if pair not in fence and keeps_apart(fence.book, (*fence.pairs, pair))
    ])


def fullest(fence):
    """Return ("only", full) if just one full fence has all pairs of this one, otherwise ("two", full, other)."""
    need_apart(fence)
    full = filled(fence)
    # All full fences have none but addable pairs besides: this one is the only one if it has all of them.
    left = [pair for pair in addable(fence) if pair not in full]
    if not left:
        return "only", full
    one, other = left[0]
    return "two", full, filled(fence.opened(one, other))


def shows_fullest(fence, value):
    """Tell whether any value is a result that is right for fullest of this fence."""
    told = fullest(fence)
    if told[0] == "only":
        return value == told
    if not isinstance(value, tuple) or len(value) != 3 or value[0] != "two":
        return False
    return is_full_around(fence, value[1]) and is_full_around(fence, value[2]) and value[1] != value[2]


def need_apart(fence):
    """Raise NotApart, with what apart tells, unless the fence keeps apart."""
    told = apart(fence)
    if told[0] != "apart":
        raise NotApart(told[1:])


def filled(fence):
    """Return a full fence that has all pairs of one that keeps apart."""
    pairs = fence.pairs
    for pair in plain(fence.book).pairs:
        if pair not in pairs and keeps_apart(fence.book, (*pairs, pair)):
            pairs = (*pairs, pair)
    return Fence(fence.book, pairs)


def is_full_around(fence, value):
    """Tell whether any value is a full fence that has all pairs of this one."""
    if not isinstance(value, Fence) or value.book != fence.book or not fence.is_within(value):
        return False
    return keeps_apart(value.book, value.pairs) and addable(value) == ()
