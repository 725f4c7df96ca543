"""Point 4, and laid of point 24."""

import unittest

from notchledger.cuts import further, holds, how_many, laid, spots_of, together

ALL = range(256)


def as_set(cuts):
    """The cut spots, found by their binary figures and not as the program does."""
    return {spot for spot, figure in enumerate(reversed(bin(cuts)[2:])) if figure == "1"}


class SpotsOf(unittest.TestCase):
    def test_named_cuts(self):
        self.assertEqual(spots_of(0), [])
        self.assertEqual(spots_of(1), [0])
        self.assertEqual(spots_of(6), [1, 2])
        self.assertEqual(spots_of(128), [7])
        self.assertEqual(spots_of(129), [0, 7])

    def test_one_spot_and_all_spots_of_each_strip(self):
        for n in range(1, 9):
            self.assertEqual(spots_of(2 ** n - 1), list(range(n)))
            self.assertEqual(spots_of(2 ** (n - 1)), [n - 1])

    def test_all_cuts(self):
        for cuts in ALL:
            spots = spots_of(cuts)
            self.assertEqual(spots, sorted(as_set(cuts)))
            self.assertEqual(sum(2 ** spot for spot in spots), cuts)

    def test_somewhat_beyond_eight_spots_is_no_error(self):
        self.assertEqual(spots_of(256), [8])
        self.assertEqual(spots_of(1023), list(range(10)))

    def test_each_list_is_a_new_one(self):
        spots = spots_of(5)
        spots.append(9)
        spots[0] = 4
        self.assertEqual(spots_of(5), [0, 2])


class HowMany(unittest.TestCase):
    def test_none_and_all(self):
        self.assertEqual(how_many(0), 0)
        for n in range(1, 9):
            self.assertEqual(how_many(2 ** n - 1), n)

    def test_all_cuts(self):
        for cuts in ALL:
            self.assertEqual(how_many(cuts), len(as_set(cuts)))


class Pairs(unittest.TestCase):
    def test_one_holds_the_other(self):
        self.assertIs(holds(7, 5), True)
        self.assertIs(holds(5, 7), False)
        self.assertEqual((further(7, 5), further(5, 7)), (1, 0))
        self.assertEqual((together(7, 5), together(5, 7)), (7, 7))

    def test_apart(self):
        self.assertIs(holds(3, 12), False)
        self.assertIs(holds(12, 3), False)
        self.assertEqual((further(3, 12), further(12, 3)), (2, 2))
        self.assertEqual(together(3, 12), 15)

    def test_some_in_both(self):
        self.assertIs(holds(6, 3), False)
        self.assertIs(holds(3, 6), False)
        self.assertEqual((further(6, 3), further(3, 6)), (1, 1))
        self.assertEqual(together(6, 3), 7)

    def test_alike(self):
        for cuts in ALL:
            self.assertIs(holds(cuts, cuts), True)
            self.assertEqual(further(cuts, cuts), 0)
            self.assertEqual(together(cuts, cuts), cuts)

    def test_none_cut_and_all_cut(self):
        for n in range(1, 9):
            full = 2 ** n - 1
            self.assertIs(holds(full, 0), True)
            self.assertIs(holds(0, full), False)
            self.assertEqual((further(full, 0), further(0, full)), (n, 0))
            self.assertEqual((together(full, 0), together(0, full)), (full, full))

    def test_all_pairs(self):
        sets = [as_set(cuts) for cuts in ALL]
        for one in ALL:
            for other in ALL:
                mine, yours = sets[one], sets[other]
                self.assertIs(holds(one, other), mine >= yours)
                self.assertEqual(further(one, other), len(mine - yours))
                self.assertEqual(as_set(together(one, other)), mine | yours)


class Laid(unittest.TestCase):
    def test_of_none(self):
        self.assertEqual(laid([]), 0)

    def test_of_one(self):
        for cuts in ALL:
            self.assertEqual(laid([cuts]), cuts)

    def test_of_many_alike(self):
        self.assertEqual(laid([5] * 1000), 5)
        self.assertEqual(laid([0] * 1000), 0)

    def test_of_many(self):
        self.assertEqual(laid([1, 2, 4, 2, 64]), 71)
        self.assertEqual(laid(list(ALL) * 3 + [255] * 232), 255)
        self.assertEqual(laid([cuts for cuts in ALL if cuts & 16 == 0]), 239)

    def test_in_any_order(self):
        some = [9, 0, 34, 8, 9, 3]
        for turn in range(len(some)):
            turned = some[turn:] + some[:turn]
            self.assertEqual(laid(turned), 43)
            self.assertEqual(laid(turned[::-1]), 43)

    def test_what_is_handed_in_stays_as_it_is(self):
        some = [4, 1, 4, 0]
        laid(some)
        self.assertEqual(some, [4, 1, 4, 0])

    def test_the_same_question_has_the_same_answer(self):
        some = [4, 1]
        self.assertEqual(laid(some), laid(some))
        some.append(32)
        self.assertEqual(laid(some), 37)


if __name__ == "__main__":
    unittest.main()
