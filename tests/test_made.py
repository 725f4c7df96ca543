"""Point 12: made writings."""

import unittest

from notchledger.made import copies, crossed, twice, unary, weighed
from plain import FAR, NO_NUMBERS, WHATEVER, WritingCase, spots, steps, sums


def figures(number):
    return spots(number)


def plain_crossed(labels, size):
    table = []
    for cuts in range(2 ** len(labels)):
        chosen = [labels[spot] for spot in spots(cuts)]
        odd = [figure for figure in range(size) if sum(figure in figures(label) for label in chosen) % 2 == 1]
        table.append(sum(2 ** figure for figure in odd))
    return (len(labels), 2 ** size, tuple(table))


def plain_unary(n):
    told = {frozenset(range(j)): j for j in range(n + 1)}
    return (n, n + 1, tuple(told.get(frozenset(spots(cuts))) for cuts in range(2 ** n)))


def plain_twice(n):
    every = frozenset(range(n))
    told = {frozenset(): 0, every: 0}
    for i in range(n):
        told[frozenset([i])] = told[every - {i}] = i + 1
    return (n, n + 1, tuple(told.get(frozenset(spots(cuts))) for cuts in range(2 ** n)))


def lists(many, below, seed):
    """Lists of one to eight numbers below a bound."""
    worths = steps(seed)
    for at in range(many):
        yield [next(worths) % below for _ in range(1 + at % 8)]


class Weighed(WritingCase):
    def test_written_out(self):
        self.same(weighed([1, 2], 3), (2, 3, (0, 1, 2, 0)))
        self.same(weighed([0], 2), (1, 2, (0, 0)))
        self.same(weighed([1, 1, 1], 2), (3, 2, (0, 1, 1, 0, 1, 0, 0, 1)))
        self.same(weighed([99, 99], 100), (2, 100, (0, 99, 99, 98)))

    def test_against_the_definition(self):
        for k in (2, 3, 5, 10, 99, 100):
            for weights in lists(16, k, k):
                self.same(weighed(weights, k), sums(weights, k))

    def test_bounds(self):
        for k in (2, 3, 99, 100):
            for weights in ([0], [k - 1], [0] * 8, [k - 1] * 8):
                self.same(weighed(weights, k), sums(weights, k))
                self.refused(weighed, weights + [k], k)
                self.refused(weighed, weights[1:] + [k], k)
                self.refused(weighed, [-1] + weights[1:], k)

    def test_no_weights_and_nine(self):
        for k in (2, 100):
            self.refused(weighed, [], k)
            self.refused(weighed, [1] * 9, k)
            self.refused(weighed, [0] * 9000, k)

    def test_k_just_beyond(self):
        self.refused(weighed, [0], 1)
        self.refused(weighed, [0], 0)
        self.refused(weighed, [0], -2)
        self.refused(weighed, [0], 101)

    def test_a_tuple_for_the_list(self):
        for weights in ((), (0,), (1, 1), (0,) * 8):
            self.refused(weighed, weights, 2)

    def test_whatever_it_is(self):
        for thing in NO_NUMBERS + FAR + [None]:
            self.refused(weighed, [0], thing)
            self.refused(weighed, [1, 1], thing)
            for at in range(3):
                self.refused(weighed, [1, 2][:at] + [thing] + [1, 2][at:], 3)
        for thing in WHATEVER:
            if thing not in ([1], [2]):
                self.refused(weighed, thing, 3)

    def test_the_list_stays_as_it_is_and_is_not_kept(self):
        weights = [2, 1, 2]
        told = weighed(weights, 3)
        self.assertEqual(weights, [2, 1, 2])
        weights[0] = 0
        self.assertEqual(told, weighed([2, 1, 2], 3))


class Crossed(WritingCase):
    def test_written_out(self):
        self.same(crossed([1], 1), (1, 2, (0, 1)))
        self.same(crossed([1, 2, 3], 2), (3, 4, (0, 1, 2, 3, 3, 2, 1, 0)))
        self.same(crossed([5, 5], 3), (2, 8, (0, 5, 5, 0)))
        self.same(crossed([0], 6), (1, 64, (0, 0)))

    def test_against_the_definition(self):
        for size in range(1, 7):
            for labels in lists(16, 2 ** size, size):
                self.same(crossed(labels, size), plain_crossed(labels, size))

    def test_bounds(self):
        for size in range(1, 7):
            last = 2 ** size - 1
            for labels in ([0], [last], [last] * 8, [0, last] * 4):
                self.same(crossed(labels, size), plain_crossed(labels, size))
                self.refused(crossed, labels[1:] + [last + 1], size)
                self.refused(crossed, [-1] + labels[1:], size)

    def test_no_labels_and_nine(self):
        self.refused(crossed, [], 3)
        self.refused(crossed, [1] * 9, 3)

    def test_size_just_beyond(self):
        self.refused(crossed, [0], 0)
        self.refused(crossed, [0], -1)
        self.refused(crossed, [0], 7)
        self.refused(crossed, [0], 8)

    def test_a_tuple_for_the_list(self):
        for labels in ((), (0,), (1, 1)):
            self.refused(crossed, labels, 2)

    def test_whatever_it_is(self):
        for thing in NO_NUMBERS + FAR + [None]:
            self.refused(crossed, [0], thing)
            for at in range(3):
                self.refused(crossed, [1, 2][:at] + [thing] + [1, 2][at:], 2)
        for thing in WHATEVER:
            if thing not in ([1], [2]):
                self.refused(crossed, thing, 2)

    def test_the_list_stays_as_it_is_and_is_not_kept(self):
        labels = [2, 1]
        told = crossed(labels, 2)
        labels.reverse()
        self.assertEqual((labels, told), ([1, 2], crossed([2, 1], 2)))


class UnaryAndTwice(WritingCase):
    def test_unary_written_out(self):
        self.same(unary(1), (1, 2, (0, 1)))
        self.same(unary(2), (2, 3, (0, 1, None, 2)))
        self.same(unary(3), (3, 4, (0, 1, None, 2, None, None, None, 3)))

    def test_twice_written_out(self):
        self.same(twice(3), (3, 4, (0, 1, 2, 3, 3, 2, 1, 0)))
        nothing = None
        self.same(
            twice(4), (4, 5, (0, 1, 2, nothing, 3, nothing, nothing, 4, 4, nothing, nothing, 3, nothing, 2, 1, 0)),
        )

    def test_all_of_them(self):
        for n in range(1, 9):
            self.same(unary(n), plain_unary(n))
        for n in range(3, 9):
            self.same(twice(n), plain_twice(n))

    def test_just_beyond(self):
        for n in (0, -1, 9, 10):
            self.refused(unary, n)
        for n in (2, 1, 0, -1, 9, 10):
            self.refused(twice, n)

    def test_whatever_it_is(self):
        for thing in NO_NUMBERS + FAR + [None, [3], (3,), "3"]:
            self.refused(unary, thing)
            self.refused(twice, thing)


class Copies(WritingCase):
    def test_written_out(self):
        self.same(copies(2, 1), weighed([1], 2))
        self.same(copies(2, 8), weighed([1] * 8, 2))
        self.same(copies(3, 2), weighed([1, 1, 2, 2], 3))
        self.same(copies(5, 2), weighed([1, 1, 2, 2, 3, 3, 4, 4], 5))
        self.same(copies(9, 1), weighed([1, 2, 3, 4, 5, 6, 7, 8], 9))

    def test_all_of_them(self):
        for k in range(2, 101):
            for turns in range(1, 13):
                weights = sorted(list(range(1, k)) * turns)
                if len(weights) <= 8:
                    self.same(copies(k, turns), sums(weights, k))
                else:
                    self.refused(copies, k, turns)

    def test_just_at_and_just_beyond_eight_spots(self):
        for k, turns in ((2, 8), (3, 4), (5, 2), (9, 1)):
            self.assertEqual(copies(k, turns)[0], 8)
            self.refused(copies, k, turns + 1)
            self.refused(copies, k + 1, turns)
        self.assertEqual(copies(4, 2)[0], 6)
        self.refused(copies, 4, 3)

    def test_just_beyond(self):
        for k in (2, 3, 9, 100):
            self.refused(copies, k, 0)
            self.refused(copies, k, -1)
        for k in (1, 0, -1, 101):
            for turns in (1, 2, 8):
                self.refused(copies, k, turns)

    def test_whatever_it_is(self):
        for thing in NO_NUMBERS + FAR + [None]:
            self.refused(copies, thing, 1)
            self.refused(copies, 2, thing)
            self.refused(copies, thing, thing)


class Again(unittest.TestCase):
    def test_asking_again_tells_the_same(self):
        for ask, given in (
            (weighed, ([1, 2], 3)), (crossed, ([1, 2], 2)), (unary, (4,)), (twice, (4,)), (copies, (3, 2)),
        ):
            self.assertEqual(ask(*given), ask(*given))


if __name__ == "__main__":
    unittest.main()
