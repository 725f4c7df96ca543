"""What several tests need: plain definitions of the document's points, things to hand in, bent papers."""

import copy
import time
import unittest
from functools import lru_cache

from notchledger.askings import any_number, by_one, one_up
from notchledger.errors import NoWriting
from notchledger.writings import made_writing


def deep(levels):
    thing = ()
    for level in range(levels):
        thing = [thing] if level % 2 else (thing,)
    return thing


# None of these is a number, nor a list or tuple that any function asks for; None itself is added where it is wrong.
NO_NUMBERS = [
    True, False, "", "1", "2", "x" * 4000, [], [1], [2], (), (1,), (2,), [None], (None,), (True, 1), deep(20),
]
FAR = [10 ** 59, -(10 ** 59)]
WHATEVER = NO_NUMBERS + FAR + [
    None, 0, 1, -1, "lasts", "open", [[]], [()], ((),), ([],), ((), ()), ((1,),), ((1, 2),), ((0, ()),), [((0, ()),)],
    (((0, ()),),), [(1, 0, 1)], ((1, 0, 1),), ([1, 0, 1],), ("open", 0), ("open", 0, 1, 2), (0,) * 9999, [0] * 9999,
    "not", "missed", "unsure", ("not", 0), ("missed", 0, 1, 3), ["not", 0, 1], ("unsure", 0, 1), ("so",),
]


def steps(seed):
    """Numbers without a pattern, always the same ones."""
    state = seed
    while True:
        state = (state * 1103515245 + 12345) % 2 ** 31
        yield state // 65536


def mixed(n, k, seed):
    """A writing with gaps, by a rule without a pattern along the spots."""
    worths = steps(seed)
    table = [next(worths) % (k + 1) for _ in range(2 ** n)]
    return made_writing(n, k, tuple(None if worth == k else worth for worth in table))


def full(n, k, seed):
    """A writing without gaps."""
    worths = steps(seed)
    return made_writing(n, k, tuple(next(worths) % k for _ in range(2 ** n)))


def sums(weights, k):
    """The writing by sums of weights, made as plainly as can be."""
    table = [sum(weights[spot] for spot in spots(cuts)) % k for cuts in range(2 ** len(weights))]
    return made_writing(len(weights), k, tuple(table))


def spots(cuts):
    return {spot for spot in range(12) if cuts // 2 ** spot % 2 == 1}


def plain_holds(one, other):
    return spots(one) >= spots(other)


@lru_cache(None)
def plain_within(tears, torn, cuts):
    """Point 20: they hold these and have at most so many further cuts."""
    return spots(torn) >= spots(cuts) and len(spots(torn) - spots(cuts)) <= tears


@lru_cache(None)
def plain_ways(writing, cuts, number):
    return [up for up, read in enumerate(writing[2]) if read == number and plain_holds(up, cuts)]


def plain_asked(writing, askings, cuts):
    read = writing[2][cuts]
    return askings[-1] if read is None else askings[read]


@lru_cache(None)
def plain_lasts(writing, askings, cuts, turns):
    """Point 8, word for word."""
    if turns == 0:
        return True
    for number in plain_asked(writing, askings, cuts):
        if not any(plain_lasts(writing, askings, up, turns - 1) for up in plain_ways(writing, cuts, number)):
            return False
    return True


def plain_most(writing, askings, cuts):
    """The most turns of at most n + 1, which stand for ever."""
    return max(turns for turns in range(writing[0] + 2) if plain_lasts(writing, askings, cuts, turns))


def is_tuple(thing, length):
    return type(thing) is tuple and len(thing) == length


def is_int(thing, low, high):
    return type(thing) is int and low <= thing <= high


def is_worded(paper, word, length):
    return is_tuple(paper, length) and type(paper[0]) is str and paper[0] == word


def plain_reads(writing, *some):
    """Whether all of these, whatever they are, are cuts that read a number."""
    return all(is_int(cuts, 0, 2 ** writing[0] - 1) and writing[2][cuts] is not None for cuts in some)


def plain_plan(writing, askings, cuts, turns, paper):
    """Point 9, word for word."""
    if not is_tuple(paper, turns):
        return False
    for row in paper:
        if type(row) is not tuple:
            return False
        ahead = -1
        for entry in row:
            if not is_tuple(entry, 2) or not is_int(entry[0], ahead + 1, 2 ** writing[0] - 1):
                return False
            ahead = entry[0]
            asked = plain_asked(writing, askings, ahead)
            if not is_tuple(entry[1], len(asked)):
                return False
            for number, answer in zip(asked, entry[1]):
                if type(answer) is not int or answer not in plain_ways(writing, ahead, number):
                    return False
    if turns > 0 and [entry[0] for entry in paper[0]] != [cuts]:
        return False
    for row, following in zip(paper, paper[1:]):
        if not {answer for entry in row for answer in entry[1]} <= {entry[0] for entry in following}:
            return False
    return True


def plain_end(writing, askings, cuts, turns, paper):
    """Point 10, word for word."""
    if type(paper) is not tuple:
        return False
    for entry in paper:
        if not is_tuple(entry, 3) or not all(type(thing) is int for thing in entry):
            return False
        if not 1 <= entry[0] <= turns or not 0 <= entry[1] < 2 ** writing[0]:
            return False
        if entry[2] not in plain_asked(writing, askings, entry[1]):
            return False
    places = [entry[:2] for entry in paper]
    if places != sorted(set(places)) or (turns, cuts) not in places:
        return False
    for left, low, number in paper:
        for up in plain_ways(writing, low, number):
            between = [
                other for less, other, _ in paper
                if less == left - 1 and plain_holds(other, low) and plain_holds(up, other)
                and writing[2][other] == number
            ]
            if not between:
                return False
    return True


def bent_number(number):
    yield from (number + 1, number - 1, number + 2, number + 8, number + 256, -number - 1, 10 ** 59)
    yield from (True, False, None, str(number), [number], (number,), "")


def bent(thing):
    """The thing with one place of it changed, each place in turn and in several ways."""
    if type(thing) is not tuple:
        yield from bent_number(thing) if type(thing) is int else (None, 0, thing + "x", thing.upper(), (thing,))
        return
    yield from (list(thing), None, 0, "", (thing,), thing + ((),), thing + (None,), thing + (0,), thing[::-1])
    for at, part in enumerate(thing):
        ahead, behind = thing[:at], thing[at + 1:]
        yield ahead + behind
        yield ahead + (part, part) + behind
        if behind:
            yield ahead + (behind[0], part) + behind[1:]
        for other in bent(part):
            yield ahead + (other,) + behind


def mixed_askings(k, seed):
    """Askings for k numbers, some rows of them empty."""
    worths = steps(seed)
    rows = []
    for stands in range(k + 1):
        many = next(worths) % 4
        rows.append(tuple(other for other in range(k) if other != stands and next(worths) % 4 < many))
    return tuple(rows)


def small_questions():
    """Writings of up to three spots, askings for them, cuts and turns."""
    for seed in range(40):
        n, k = 1 + seed % 3, 2 + seed % 2
        for askings in (any_number(k), by_one(k), one_up(k), mixed_askings(k, seed)):
            for turns in range(n + 3):
                yield mixed(n, k, seed), askings, seed % 2 ** n, turns
                yield mixed(n, k, seed), askings, 0, turns


def with_at_each_place(paper, thing):
    """The paper with the thing put in each of its places in turn, and behind them all."""
    for at in range(len(paper)):
        yield paper[:at] + (thing,) + paper[at + 1:]
    yield paper + (thing,)


class PaperCase(unittest.TestCase):
    """For checkers of papers, which are held against a plain look at the same paper."""

    def agree(self, check, plain, given, papers):
        """Tells how many of the papers were let by."""
        granted = 0
        for paper in papers:
            before = repr(paper)
            told = check(*given, paper)
            self.assertIs(told, plain(*given, paper), (given, before[:300]))
            self.assertEqual(repr(paper), before)
            granted += told
        return granted

    def agree_on_whatever(self, check, plain, given, paper):
        for thing in WHATEVER:
            self.agree(check, plain, given, [thing, (thing,), [thing], *with_at_each_place(paper, thing)])


class TellingCase(unittest.TestCase):
    """For what tells one word where something is so, and else a paper that shows it isn't."""

    def tells(self, ask, given, is_so, word, check, plain):
        told = ask(*given)
        if is_so:
            self.assertEqual(repr(told), repr((word,)), given)
        else:
            self.assertTrue(plain(*given, told), (given, told))
        self.assertIs(check(*given, told), not is_so)
        self.assertEqual(repr(ask(*given)), repr(told))


class TimedCase(unittest.TestCase):
    """For what is promised of eight spots, too."""

    def timed(self, ask, *given):
        begun = time.process_time()
        told = ask(*given)
        self.assertLess(time.process_time() - begun, 2)
        return told


class WritingCase(unittest.TestCase):
    """For functions that tell a writing or refuse with NoWriting."""

    def same(self, told, plain):
        self.assertEqual(repr(told), repr(plain))
        self.assertEqual(made_writing(*told), told)

    def refused(self, ask, *given):
        before = copy.deepcopy(given)
        with self.assertRaises(NoWriting, msg=repr(given)[:300]) as caught:
            ask(*given)
        self.assertEqual(caught.exception.args, ())
        self.assertEqual(repr(given), repr(before))
