"""Plans: papers by which cuts last so many turns, and their checker."""

from notchledger.askings import may_be_asked
from notchledger.cuts import holds
from notchledger.kinds import is_rising
from notchledger.writings import is_cuts, reading


def right_plan(writing, askings, cuts, turns, paper):
    """Whether the paper, whatever it is, is a plan for these cuts and so many turns."""
    if not isinstance(paper, tuple) or len(paper) != turns:
        return False
    if not all([is_row(writing, askings, row) for row in paper]):
        return False
    if turns > 0 and cuts_in(paper[0]) != [cuts]:
        return False
    return all([leads_on(paper[at - 1], paper[at]) for at in range(1, turns)])


def is_row(writing, askings, row):
    """Whether the row, whatever it is, is one of entries that rise by their cuts."""
    if not isinstance(row, tuple) or not all([is_entry(writing, askings, entry) for entry in row]):
        return False
    return is_rising(cuts_in(row))


def is_entry(writing, askings, entry):
    """Whether the entry, whatever it is, is of cuts and a way up to each number that may be asked."""
    if not isinstance(entry, tuple) or len(entry) != 2:
        return False
    cuts, answers = entry
    if not is_cuts(writing, cuts) or not isinstance(answers, tuple):
        return False
    asked = may_be_asked(writing, askings, cuts)
    if len(answers) != len(asked):
        return False
    return all([is_way_up(writing, cuts, number, answer) for number, answer in zip(asked, answers)])


def is_way_up(writing, cuts, number, answer):
    """Whether the answer, whatever it is, is cuts that hold these and read the number."""
    return is_cuts(writing, answer) and holds(answer, cuts) and reading(writing, answer) == number


def cuts_in(row):
    """The cuts of the row's entries."""
    return [entry[0] for entry in row]


def leads_on(row, following):
    """Whether each answer of the row stands in the row that follows it."""
    standing = {cuts: True for cuts in cuts_in(following)}
    return all([answer in standing for entry in row for answer in entry[1]])
