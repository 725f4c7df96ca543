"""Ends: papers by which cuts do not last so many turns, and their checker."""

from notchledger.askings import may_be_asked
from notchledger.cuts import holds
from notchledger.kinds import is_between, is_number, is_rising
from notchledger.writings import is_cuts, reading, ways_up


def right_end(writing, askings, cuts, turns, paper):
    """Whether the paper, whatever it is, is an end of these cuts and so many turns."""
    if not isinstance(paper, tuple) or not all([is_entry(writing, askings, turns, entry) for entry in paper]):
        return False
    places = [(entry[0], entry[1]) for entry in paper]
    if not is_rising(places) or (turns, cuts) not in places:
        return False
    rows = cuts_by_turns(paper)
    return all([is_closed(writing, entry, rows.get(entry[0] - 1, [])) for entry in paper])


def is_entry(writing, askings, turns, entry):
    """Whether the entry, whatever it is, is of turns, cuts and a number that may be asked of them."""
    if not isinstance(entry, tuple) or len(entry) != 3:
        return False
    left, cuts, number = entry
    if not is_between(left, 1, turns) or not is_cuts(writing, cuts) or not is_number(number):
        return False
    return number in may_be_asked(writing, askings, cuts)


def cuts_by_turns(paper):
    """For each turns in the paper the cuts that stand beside them."""
    rows = {}
    for left, cuts, number in paper:
        rows[left] = rows.get(left, [])
        rows[left].append(cuts)
    return rows


def is_closed(writing, entry, lower):
    """Whether each way up to the entry's number holds some of the lower cuts, which are ways up to it, too."""
    cuts, number = entry[1], entry[2]
    closing = [low for low in lower if holds(low, cuts) and reading(writing, low) == number]
    return all([holds_one(up, closing) for up in ways_up(writing, cuts, number)])


def holds_one(up, closing):
    """Whether the cuts hold one of these."""
    return any([holds(up, low) for low in closing])
