"""Point 31: a writing's text."""

import re
import unittest

from notchledger.errors import NoText
from notchledger.made import copies, twice, unary, weighed
from notchledger.texts import read_writing, writing_text
from notchledger.writings import made_writing
from plain import WHATEVER, TimedCase, full, mixed

FIGURES = "(?:0|[1-9][0-9]*)"
SMALL = made_writing(1, 2, (0, None))
TEXT = "strip 2 12\n0 - 11 10\n"
WRITING = made_writing(2, 12, (0, None, 11, 10))
MANY = [SMALL, WRITING, copies(3, 2), twice(4), unary(8), weighed([1, 10, 99], 100), made_writing(3, 100, (None,) * 8)]
MANY += [mixed(n, k, n * k) for n in range(1, 9) for k in (2, 10, 11, 99, 100)] + [full(8, 100, 1)]


def plain_text(writing):
    n, k, table = writing
    return f"strip {n} {k}\n{' '.join('-' if number is None else str(number) for number in table)}\n"


def is_a_text(text):
    """Point 31 of a text, sign by sign."""
    found = re.fullmatch(f"strip ([1-8]) ({FIGURES})\\n((-|{FIGURES})( (-|{FIGURES}))*)\\n", text)
    if found is None or not 2 <= int(found[2]) <= 100:
        return False
    words = found[3].split(" ")
    return len(words) == 2 ** int(found[1]) and all(word == "-" or int(word) < int(found[2]) for word in words)


class TextCase(unittest.TestCase):
    def refused(self, thing):
        before = repr(thing)
        with self.assertRaises(NoText, msg=before[:300]) as caught:
            read_writing(thing)
        self.assertEqual(type(caught.exception), NoText)
        self.assertEqual(caught.exception.args, ())
        self.assertEqual(repr(thing), before)

    def read(self, text, writing):
        told = read_writing(text)
        self.assertEqual(repr(told), repr(writing))
        self.assertEqual(made_writing(*told), told)
        self.assertEqual(repr(read_writing(text)), repr(told))


class EachOthersOpposite(TextCase):
    def test_written_out(self):
        self.assertEqual(writing_text(SMALL), "strip 1 2\n0 -\n")
        self.assertEqual(writing_text(WRITING), TEXT)
        self.assertEqual(writing_text(made_writing(1, 100, (99, None))), "strip 1 100\n99 -\n")
        self.read("strip 1 2\n0 -\n", SMALL)
        self.read(TEXT, WRITING)

    def test_many_writings(self):
        for writing in MANY:
            before = repr(writing)
            text = writing_text(writing)
            self.assertEqual(text, plain_text(writing))
            self.assertIs(type(text), str)
            self.read(text, writing)
            self.assertEqual(writing_text(read_writing(text)), text)
            self.assertEqual(repr(writing), before)


class NoWritingsText(TextCase):
    def test_each_sign_left_out_or_twice(self):
        for at in range(len(TEXT)):
            left_out = TEXT[:at] + TEXT[at + 1:]
            twice_in = TEXT[:at] + TEXT[at] + TEXT[at:]
            for text in (left_out, twice_in):
                self.refused_unless_its_own(text)
        self.refused(TEXT[:-1])
        self.refused(TEXT + "\n")

    def test_each_sign_changed_or_put_in(self):
        signs = "0123456789-+ \n\t\r.,xXsS_e\u00b2\u0663\uff11\u2212\u00a0\u2003\x0b\x0c\x1c\x85\u2028\ufeff\x00"
        for at in range(len(TEXT) + 1):
            for sign in signs:
                for text in (TEXT[:at] + sign + TEXT[at:], TEXT[:at] + sign + TEXT[at + 1:]):
                    self.refused_unless_its_own(text)

    def refused_unless_its_own(self, text):
        if is_a_text(text):
            self.assertEqual(plain_text(read_writing(text)), text)
        else:
            self.refused(text)

    def test_named_ones(self):
        self.assertTrue(is_a_text("strip 1 2\n0 -\n"))
        for text in (
            "", "\n", "\n\n", " ", "strip", "strip\n", "strip 1 2", "strip 1 2\n", "strip 1 2\n\n", "0 -\n",
            "strip 1 2\n0 -", "strip 1 2\n0 -\n\n", "\nstrip 1 2\n0 -\n", "strip 1 2\n\n0 -\n", "strip 1 2\n0 - \n",
            "strip 1 2\n 0 -\n",
            "strip 1 2\n0  -\n", "strip  1 2\n0 -\n", "strip 1  2\n0 -\n", " strip 1 2\n0 -\n", "strip 1 2 \n0 -\n",
            "strip 1 2\r\n0 -\r\n", "strip 1 2\r0 -\r", "strip\t1\t2\n0\t-\n", "strip 1 2 0 -\n", "strip 1\n2 0 -\n",
            "strip 1 2\n0\n-\n", "strip 01 2\n0 -\n", "strip 1 02\n0 -\n", "strip 1 2\n00 -\n", "strip 1 2\n01 -\n",
            "strip 1 2\n0 2\n", "strip 1 2\n0 -1\n", "strip 1 2\n-0 -\n", "strip 1 2\n+1 -\n", "strip 1 2\n+0 -\n",
            "strip +1 2\n0 -\n", "strip 1 +2\n0 -\n", "strip -1 2\n0 -\n", "strip 1 -\n0 -\n", "strip - 2\n0 -\n",
            "strip 1 2\n0\n", "strip 1 2\n0 - -\n", "strip 1 2\n0 - 0\n", "strip 1 2\n0 - 0 1\n", "strip 2 2\n0 -\n",
            "strip 1 1\n0 -\n", "strip 1 0\n- -\n", "strip 1 101\n0 -\n", "strip 1 999\n0 -\n", "strip 1 1000\n0 -\n",
            "strip 0 2\n0\n", "strip 0 2\n\n", "strip 9 2\n" + "0 " * 511 + "0\n", "strip 1 2\n0 --\n",
            "strip 1 2\n0 \u2212\n",
            "strip 1 2\n\u0660 -\n", "strip \u0661 2\n0 -\n", "strip 1 \uff12\n0 -\n", "strip 1 2\n\u00b2 -\n",
            "Strip 1 2\n0 -\n",
            "STRIP 1 2\n0 -\n", "strap 1 2\n0 -\n", "strip1 2\n0 -\n", "strip 1 2\n0 None\n", "strip 1 2\n0 nothing\n",
            "strip 1 2\n0.0 -\n", "strip 1 2\n1e0 -\n", "strip 1 2\n1_0 -\n", "strip 1 12\n1_0 -\n",
            "strip 1 2\n0x1 -\n",
            "strip 1 2\nTrue -\n", "strip 1 2\n0,-\n", "ledger\nstrip 1 2\n0 -\n", "strip 1 2\n0 -\nstrip 1 2\n0 -\n",
            "strip 1 100\n100 -\n", "strip 1 2\n" + "1" * 3900 + " -\n", "strip " + "1" * 3900 + " 2\n0 -\n",
            "strip 1 " + "9" * 5000 + "\n0 -\n", "strip 1 2\n" + "7" * 5000 + " -\n",
        ):
            self.refused(text)
            self.assertFalse(is_a_text(text[:1000]))

    def test_whatever_it_is(self):
        for thing in WHATEVER + [SMALL, WRITING, [TEXT], (TEXT,), list(TEXT), b"strip 1 2\n0 -\n", 1, True, None]:
            self.refused(thing)

    def test_of_many_writings(self):
        for writing in MANY:
            text = plain_text(writing)
            for wrong in (text[:-1], text + "\n", text + " ", " " + text, text.replace("\n", "\r\n"), text.upper(),
                          text.replace(" ", "  "), text[:-1] + " -\n", text[:-1] + " 0\n", text.replace("\n", " ")):
                self.refused(wrong)


class EightSpots(TimedCase):
    def test_in_time(self):
        for writing in (full(8, 100, 1), mixed(8, 100, 2), made_writing(8, 2, (None,) * 256)):
            self.assertEqual(self.timed(read_writing, self.timed(writing_text, writing)), writing)


if __name__ == "__main__":
    unittest.main()
