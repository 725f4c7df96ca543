"""Point 17: chains; point 18: sealed writings of as many numbers as there can be."""

import itertools
import math
import unittest

from notchledger.chains import chains_of, fewest_sealed, right_chains, sealed_of
from notchledger.errors import TooMany
from notchledger.sealing import sealing
from notchledger.writings import made_writing, numbers_read
from plain import WHATEVER, PaperCase, TimedCase, bent, plain_holds, spots, steps


def plain_chains(n, paper):
    """Point 17, word for word."""
    if type(paper) is not tuple:
        return False
    seen = []
    for chain in paper:
        if type(chain) is not tuple or not chain or not all(type(cuts) is int for cuts in chain):
            return False
        seen += chain
    if sorted(seen) != list(range(2 ** n)):
        return False
    return all(plain_holds(high, low) for chain in paper for low, high in zip(chain, chain[1:]))


def single_chains(n):
    """The plainest chains, each of one cuts."""
    return tuple((cuts,) for cuts in range(2 ** n))


def pairs_by_spot(n, spot):
    return tuple((cuts, cuts + 2 ** spot) for cuts in range(2 ** n) if spot not in spots(cuts))


def right_papers(n):
    yield from (single_chains(n), single_chains(n)[::-1], pairs_by_spot(n, 0), pairs_by_spot(n, n - 1), chains_of(n))
    one_long = tuple(2 ** many - 1 for many in range(n + 1))
    yield (one_long,) + tuple((cuts,) for cuts in range(2 ** n) if cuts not in one_long)


def middle(n):
    """The cuts in which n // 2 spots are cut."""
    return [cuts for cuts in range(2 ** n) if len(spots(cuts)) == n // 2]


class RightChains(PaperCase):
    def test_right_papers(self):
        for n in range(1, 9):
            for paper in right_papers(n):
                self.assertTrue(plain_chains(n, paper))
                self.assertIs(right_chains(n, paper), True)

    def test_named_ones(self):
        self.assertIs(right_chains(2, ((0, 1, 3), (2,))), True)
        self.assertIs(right_chains(2, ((2,), (0, 1, 3))), True)
        self.assertIs(right_chains(2, ((0, 3), (1,), (2,))), True)
        for paper in (
            ((0, 1, 3),), ((0, 1, 3), (2,), (2,)), ((0, 1, 3), (2, 2)), ((0, 1, 3, 3), (2,)), ((0, 1, 3), (2, 3)),
            ((0, 1, 3), (4,)), ((0, 1, 3), (2,), (4,)), ((0, True, 3), (2,)), ((False, 1, 3), (2,)),
            ((0, "1", 3), (2,)), ((0, 1, 3), "2"), ([0, 1, 3], (2,)), ((0, 1, 3), [2]), [(0, 1, 3), (2,)],
            ((0, 1, 3), (2,), ()), ((), (0, 1, 3), (2,)), ((1, 0, 3), (2,)), ((0, 3, 1), (2,)), ((3, 1, 0), (2,)),
            ((0, 1, 2, 3),), ((0, 1, 2), (3,)), ((1, 2), (0, 3)), ((0, 1, 3), (-2,)), ((0, 1, 3), (2,), (-1,)),
            None, (), ((),), (None,), ((None,),), 0, "", ((0, 1, 3), None), ((0, 1, 3), 2), (0, 1, 2, 3),
            ((0, 1, 3), ((2,),)),
        ):
            self.assertIs(right_chains(2, paper), False, paper)
            self.assertIs(plain_chains(2, paper), False, paper)

    def test_every_row_of_one_spots_cuts(self):
        rows = [row for size in range(4) for row in itertools.product((0, 1), repeat=size)]
        papers = [paper for size in range(4) for paper in itertools.product(rows, repeat=size)]
        self.assertEqual(self.agree(right_chains, plain_chains, (1,), papers), 3)

    def test_each_kind_of_wrong_paper_for_each_number_of_spots(self):
        for n in range(1, 9):
            for paper in right_papers(n):
                first, last = paper[0], paper[-1]
                with_true = [tuple(True if cuts == 1 else cuts for cuts in chain) for chain in paper]
                for wrong in (
                    paper[1:], paper[:-1], paper + (first,), (first,) + paper, (first[1:],) + paper[1:],
                    paper[:-1] + (last + last,), paper + ((2 ** n,),), paper + ((-1,),),
                    (first + (2 ** n,),) + paper[1:], tuple(with_true), paper[:-1] + (str(last[0]),),
                    paper[:-1] + (last[:-1] + (str(last[-1]),),),
                    (list(first),) + paper[1:], list(paper), paper + ((),), ((),) + paper, paper + (None,), (paper,),
                    paper[:-1] + (last[:-1] + (None,),), ((2 ** n - 1, 0),) + paper, (tuple(range(2 ** n))[::-1],),
                ):
                    self.assertIs(right_chains(n, wrong), False, (n, wrong))

    def test_bent_at_each_place(self):
        for n in range(1, 5):
            for paper in right_papers(n):
                self.agree(right_chains, plain_chains, (n,), bent(paper))

    def test_bent_at_some_places_of_more_spots(self):
        for n in range(5, 9):
            for paper in right_papers(n):
                self.agree(right_chains, plain_chains, (n,), itertools.islice(bent(paper), n, None, 2 ** n - 3))

    def test_two_cuts_in_each_others_place(self):
        worths = steps(5)
        for n in range(2, 9):
            for times in range(40):
                one, other = next(worths) % 2 ** n, next(worths) % 2 ** n
                swap = {one: other, other: one}
                paper = tuple(tuple(swap.get(cuts, cuts) for cuts in chain) for chain in chains_of(n))
                self.agree(right_chains, plain_chains, (n,), [paper])

    def test_chains_of_fewer_or_more_spots(self):
        for n, other in itertools.product(range(1, 9), repeat=2):
            self.assertIs(right_chains(n, chains_of(other)), n == other)

    def test_whatever_it_is(self):
        for n in (1, 2, 3, 8):
            self.agree_on_whatever(right_chains, plain_chains, (n,), chains_of(n)[:4])
            for thing in WHATEVER:
                self.agree(right_chains, plain_chains, (n,), [(*chains_of(n), (thing,)), ((thing,), *chains_of(n)[1:])])


class ChainsOf(unittest.TestCase):
    def test_few(self):
        self.assertEqual(chains_of(1), ((0, 1),))
        self.assertEqual(sorted(len(chain) for chain in chains_of(2)), [1, 3])

    def test_chains_as_few_as_any_have(self):
        for n in range(1, 9):
            told = chains_of(n)
            self.assertIs(right_chains(n, told), True)
            self.assertTrue(plain_chains(n, told))
            self.assertEqual(len(told), len(middle(n)))
            self.assertEqual(len(told), math.comb(n, n // 2))

    def test_again(self):
        for n in range(1, 9):
            self.assertEqual(repr(chains_of(n)), repr(chains_of(n)))

    def test_somewhat_beyond_is_no_error(self):
        self.assertEqual(chains_of(0), ((0,),))
        self.assertEqual(len(chains_of(9)), 126)
        self.assertIs(right_chains(9, chains_of(9)), True)
        self.assertIs(right_chains(0, ((0,),)), True)
        for n in (-1, 0, 10):
            self.assertIs(right_chains(n, ()), False)
            self.assertTrue(chains_of(n))


class SealedOf(unittest.TestCase):
    def check(self, n, k):
        told = sealed_of(n, k)
        self.assertEqual(made_writing(*told), told)
        self.assertEqual(told[:2], (n, k))
        chosen = middle(n)[:k]
        plain = [chosen.index(cuts) if cuts in chosen else None for cuts in range(2 ** n)]
        self.assertEqual(repr(told[2]), repr(tuple(plain)))
        self.assertEqual(sealing(told), ("sealed",))
        self.assertEqual(numbers_read(told), list(range(k)))
        self.assertEqual(repr(sealed_of(n, k)), repr(told))

    def refused(self, n, k):
        with self.assertRaises(TooMany) as caught:
            sealed_of(n, k)
        self.assertEqual(caught.exception.args, ())

    def test_written_out(self):
        self.assertEqual(sealed_of(2, 2), (2, 2, (None, 0, 1, None)))
        self.assertEqual(sealed_of(3, 2), (3, 2, (None, 0, 1, None, None, None, None, None)))
        self.assertEqual(sealed_of(3, 3), (3, 3, (None, 0, 1, None, 2, None, None, None)))
        six = (None, None, None, 0, None, 1, 2, None, None, 3, 4, None, 5, None, None, None)
        self.assertEqual(sealed_of(4, 6), (4, 6, six))

    def test_each_number_of_spots_and_of_numbers(self):
        for n in range(1, 9):
            for k in range(2, 101):
                if k <= math.comb(n, n // 2):
                    self.check(n, k)
                else:
                    self.refused(n, k)

    def test_one_spot_is_too_few(self):
        self.refused(1, 2)

    def test_in_no_sealed_writing_are_more_numbers_read_than_there_are_chains(self):
        for n in (1, 2):
            for table in itertools.product((None, 0, 1, 2), repeat=2 ** n):
                if sealing((n, 3, table)) == ("sealed",):
                    many = sum(number is not None for number in table)
                    self.assertLessEqual(many, len(chains_of(n)))
        for which in range(2 ** 8):
            table = tuple(0 if cuts in spots(which) else None for cuts in range(8))
            if sealing((3, 2, table)) == ("sealed",):
                self.assertLessEqual(len(spots(which)), len(chains_of(3)))

    def test_somewhat_beyond_is_no_error(self):
        self.assertEqual(sealed_of(3, 1), (3, 1, (None, 0) + (None,) * 6))
        self.assertEqual(sealed_of(9, 101)[:2], (9, 101))
        self.refused(0, 2)
        self.refused(8, 101)


class FewestSealed(unittest.TestCase):
    def test_each_k(self):
        for k in range(2, 71):
            n, writing, chains = fewest_sealed(k)
            self.assertEqual(n, min(many for many in range(1, 9) if math.comb(many, many // 2) >= k))
            self.assertEqual(repr(writing), repr(sealed_of(n, k)))
            self.assertIs(right_chains(n - 1, chains), True)
            self.assertTrue(plain_chains(n - 1, chains))
            self.assertLess(len(chains), k)
            self.assertEqual(repr(fewest_sealed(k)), repr((n, writing, chains)))
            self.assertIs(type(fewest_sealed(k)), tuple)

    def test_each_bound(self):
        most = ((2, 2), (3, 3), (6, 4), (10, 5), (20, 6), (35, 7), (70, 8))
        for k, n in most:
            self.assertEqual(fewest_sealed(k)[0], n)
        for k, n in most[:-1]:
            self.assertEqual(fewest_sealed(k + 1)[0], n + 1)

    def test_above_seventy(self):
        for k in range(71, 103):
            with self.assertRaises(TooMany) as caught:
                fewest_sealed(k)
            self.assertEqual(caught.exception.args, ())

    def test_somewhat_beyond_is_no_error(self):
        self.assertEqual(fewest_sealed(1)[:2], (1, (1, 1, (0, None))))
        self.assertEqual(fewest_sealed(0)[0], 1)


class EightSpots(TimedCase):
    def test_in_time(self):
        chains = self.timed(chains_of, 8)
        self.assertIs(self.timed(right_chains, 8, chains), True)
        self.assertIs(self.timed(right_chains, 8, chains[1:]), False)
        self.assertIs(self.timed(right_chains, 8, ((0,),) * 5000), False)
        self.timed(sealed_of, 8, 70)
        self.timed(fewest_sealed, 70)


if __name__ == "__main__":
    unittest.main()
